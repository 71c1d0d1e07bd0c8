import PyProof.Rows.All
import Wide.All
import OpenK.AllK
import Wide.FinOn
import PySem.Challenge.RW_haulbell_k42_no_machines
import Lean
import PyProof.EqAt
import PyProof.EqKinds
import PyProof.TupleCall
import PyProof.EnumStmt
import PyProof.NeKinds
import PyProof.ExcAttrAll.ValueError
import PyProof.ExcInit
import PyProof.StationsW
import PyProof.NsDelKeeps
import PyProof.InstStoreFacts
import PyProof.ZipIter
import PyProof.IsiBase
import PyProof.AttrMiss
import KE.KDictOf
import KE.KDictList
import PyProof.InstEq
import PyProof.Rows.Range3
import PyProof.EnumMake
import PyProof.StrWalks
import PyProof.DictWalks
import PyProof.Rows.StrWeight2
import PyProof.StrCalls2
import PyProof.Rows.StrFacts2
import KE.KEqDict
import KE.KTab
import KE.KTabLook
import KE.KIntText
import PyProof.SliceStr
import PyProof.StrOps2
import KE.LcSums
open PySem.W renaming behindTheImports→ac
open PySem renaming wpAny_bind→ad,wpAny_pure→am,wpAny_field→ap,wpAny_holding→bd,wpAny_truthy_bool→bi,starEach→bm,sizeLine→bn,wpAny_Call_Name_kw→bv
open List renaming length_map→ce,length_append→ci,mem_of_getElem?→cr,length_take→db,mem_cons_of_mem→dl,map_append→dL,length_singleton→f8,size_toArray→ge,mem_append_right→ii,getElem?_map→im,length_drop→io,append_assoc→jp,getElem?_eq_getElem→le,mem_cons_self→li,mem_cons→lv
open Bool renaming and_eq_true→lw
open Option renaming map_eq_some_iff→mo
open Nat renaming lt_of_lt_of_le→nb,le_of_ble_eq_true→nw,ne_of_lt→pc,le_refl→pi
open Int renaming toNat_natCast→re,eq_ofNat_of_zero_le→sn
open List renaming replicate→ss,getElem?_eq_some_iff→sw
open PySem.Heap renaming get?_push_of_some→sK,lt_size→tz,get?_push_size→ul
set_option linter.all false
set_option maxRecDepth 100000
set_option Elab.async false
set_option compiler.extract_closed false
theorem My.kleA {a b k:Nat}(h:a<=k)(e:Nat.ble (b+1) a=true):b<=k-1:=Nat.le_sub_one_of_lt (nb (nw e) h)
theorem My.kleB {a b k:Nat}(h:a<=k)(e:Nat.ble b a=true):b<=k:=Nat.le_trans (nw e) h
set_option hygiene false
local macro_rules| `(tactic|sleep $n:num)=>`(tactic|((conv at h=>lhs;whnf);iterate $n (split at h;rotate_left;cases h)))
set_option hygiene true
local macro_rules|`(command|abbrev $i:declId $s:optDeclSig $v:declVal)=>`(command|noncomputable def $i:declId $s:optDeclSig $v:declVal)
local macro_rules|`(command|def $i:declId $b:bracketedBinder* :$t $v:declVal)=>`(command|theorem $i:declId $b:bracketedBinder* :$t $v:declVal)
local macro_rules|`(nofun)=>`(by first|exact My.kleA (by assumption) (by rfl)|exact My.kleB (by assumption) (by rfl)|lia|omega)
local macro_rules|`(tactic|omega)=>`(tactic|lia)
noncomputable abbrev My.pr:PySem.Program:=PySem.Challenge.rw_haulbell_k42_no_machines.row.prog
open PySem PySem.W in
set_option maxHeartbeats 0 in
def My.DF:PySem.Challenge.rw_haulbell_k42_no_machines.wellSaid=true:=by
  rewrite [Fast.te9446332074065402090]
  kernel_rfl
namespace L2
open PySem PySem.Spec
abbrev inClass (s:Stmt)(j:Nat):Stmt:=match s with
  | .ClassDef _ _ _ body _ _ _ _ _ _ _=>body.getD j (.Pass ⟨0,0,0,0⟩)
  |_=>.Pass ⟨0,0,0,0⟩
abbrev pq (s:Stmt):Arguments:=match s with
  | .FunctionDef _ a _ _ _ _ _ _ _ _=>a
  |_=>{ posonlyargs:=[],args:=[],vararg:=none,kwonlyargs:=[],kw_defaults:=[],kwarg:=none,defaults:=[] }
abbrev qC (s:Stmt):List Stmt:=match s with
  | .FunctionDef _ _ b _ _ _ _ _ _ _=>b
  |_=>[]
abbrev lP (s:Stmt):Scope:=match s with
  | .FunctionDef _ _ _ _ _ _ sc _ _ _=>sc
  |_=>{ kind:=.function,names:=[],isGenerator:=false,isCoroutine:=false }
end L2
namespace My
open PySem L2 PySem.W
abbrev top (i:Nat):Stmt:=PySem.Challenge.pw_haulbell_k42_no_machines.main.body.getD i (.Pass ⟨0,0,0,0⟩)
abbrev tq (i j:Nat):Stmt:=inClass (top i) j
/-- the top's run on a tree -/
abbrev iY (tb:String->Option Builtin)(p:Program)(w:World)(m:Nat)(ann:Option Value):Nat->SharedT->Thread->Option SharedT
  |0,_,_=>none
  |n+1,s,t=>match through t with
    |true=>some s
    |false=>match stepOk m ann t with
      |false=>none
      |true=>match stepT (denote tb) p w s t with
        |some r=>iY tb p w m ann n r.1 r.2
        |none=>none
def qx {tb:String->Option Builtin}{p:Program}{w:World}{m:Nat}{ann:Option Value}:∀ {n:Nat}{s s':SharedT}{t:Thread},iY tb p w m ann n s t=some s'->topRun tb p w m ann n s.abs t=some s'.abs
  |0,_,_,_,h=>by cases h
  |n+1,s,s',t,h=>by
    unfold iY at h;unfold topRun;cases a:through t
    · rw[a]at h;dsimp only at h⊢
      cases b:stepOk m ann t
      · rw[b]at h;cases h
      · rw[b]at h;dsimp only at h⊢
        cases c:stepT (denote tb) p w s t with
        |none=>rw[c]at h;cases h
        |some r=>rw[c]at h;rw[stepT_spec c];exact qx h
    · rw[a]at h;cases h;rfl
abbrev Ce:Nat->BT->List Obj->BT
  |_,t,[]=>t
  |n,t,o::os=>Ce (n+1) (t.ins n o) os
abbrev ve (P:Params):BT:=Ce 0 .nil (boot_heap P).objs.toList
abbrev D3 (P:Params)(os:OsState):SharedT:=⟨ve P,11,(boot_heap P).life,Array.mk [],boot_drawn,boot_toks,os⟩
def rF {p q:Program}{loose:List Str}{Xt:Shared->Bool}{α:Type}{Yf:Shared->α}{Ya:World->α}{N:Nat}(e:opening p=plainProg p.main.scope.names)(hN:Nat.ble 600 N=true)(f:∀ s,fenceModules? p s=some s)
    (h0:∀ P,absHeap (ve P) 11 (boot_heap P).life=boot_heap P) (h1:∀ P,((boot_heap P).isNs mainGlobals,(boot_heap P).objs.size,(boot_heap P).nsMap mainGlobals "__annotations__")=(true,11,some (.ref 6)))
    (run:∀ (w:World) (os:OsState),(iY treeTable p w 11 (some (.ref 6)) N (D3 w.params os) (topStub p)).map (λs=>(staticsOk (importedModules p.main.body) (boot_heap w.params) s.abs.heap&&namesBound p s.abs.heap&&gensDone s.abs&&laidKept (boot_heap w.params) s.abs.heap,
      openSeen q loose (importedModules p.main.body) Xt true s.abs,Yf s.abs))=some (true,openGood q loose,Ya w)):LeftO p q loose Xt Yf Ya N:=λw=>by
  obtain⟨⟨hp,gs,d,k,os⟩,e1,e2⟩:=mo.mp (boot_open e hN f w);obtain⟨rfl,rfl,rfl,rfl⟩:hp=boot_heap w.params/\gs=Array.mk []/\d=boot_drawn/\k=boot_toks:=by simpa using e2
  obtain⟨z1,z2,z3⟩:_/\_/\_:=by simpa only [Prod.mk.injEq] using h1 w.params
  obtain⟨s,r,l⟩:=mo.mp (run w os);obtain⟨l1,l2,l3⟩:_/\_/\_:=by simpa only [Prod.mk.injEq] using l
  have r1:=qx r;have a0:(D3 w.params os).abs=⟨boot_heap w.params,Array.mk [],boot_drawn,boot_toks,os⟩:=by
    show(⟨absHeap (ve w.params) 11 (boot_heap w.params).life,Array.mk [],boot_drawn,boot_toks,os⟩:Shared)=_;rw[h0]
  rw[a0]at r1;unfold openEnds;rw[e1];have t:topFrom treeTable p w N ⟨boot_heap w.params,Array.mk [],boot_drawn,boot_toks,os⟩=some s.abs:=by
    unfold topFrom;dsimp only;rw[z1,z2,z3,r1];show(match staticsOk (importedModules p.main.body) (boot_heap w.params) s.abs.heap&&namesBound p s.abs.heap&&gensDone s.abs&&laidKept (boot_heap w.params) s.abs.heap with|true=>some s.abs|false=>none)=some s.abs;rw[l1]
  show(topFrom treeTable p w N _).map _=_;rw[t];exact congrArg some (Prod.ext l2 l3)
abbrev D6:List Addr:=2::3::30::31::47::48::50::51::66::67::69::70::85::86::88::89::104::105::107::108::123::124::126::127::142::143::145::146::161::162::164::165::173::174::180::181::182::188::189::195::196::202::203::211::217::218::236::237::243::244::246::247::257::258::264::265::274::275::292::293::306::307::309::310::325::326::339::340::342::343::358::359::372::373::375::376::391::392::405::406::408::409::424::425::438::439::441::442::450::451::457::458::466::472::473::514::515::521::522::528::529::533::534::540::541::543::544::554::555::561::562::570::576::577::590::591::593::594::616::617::619::620::642::643::645::646::668::669::671::672::694::695::697::698::720::721::723::724::746::747::749::750::753::759::760::766::767::773::774::787::788::794::795::801::802::808::809::815::816::822::823::829::830::836::837::850::851::853::854::864::865::871::872::878::879::883::884::897::898::904::905::911::912::918::919::925::926::932::933::939::940::946::947::953::954::960::961::965::966::972::973::979::980::986::987::993::994::[]
abbrev Fh:List Addr:=48::67::86::105::124::143::162::174::181::189::196::203::218::237::244::258::265::293::307::326::340::359::373::392::406::425::439::451::458::473::515::522::529::534::541::555::562::577::591::617::643::669::695::721::747::760::767::774::788::795::802::809::816::823::830::837::851::865::872::879::884::898::905::912::919::926::933::940::947::954::961::966::973::980::987::994::[]
abbrev FQ:List Addr:=[31,51,70,89,108,127,146,165,247,275,310,343,376,409,442,544,594,620,646,672,698,724,750,854]
abbrev runK (tb:String->Option Builtin)(p:Program)(w:World)(m:Nat)(ann:Option Value):Nat->SharedT->Thread->Option (SharedT×Thread)
  |0,s,t=>some (s,t)
  |n+1,s,t=>match through t with
    |true=>none
    |false=>match stepOk m ann t with
      |false=>none
      |true=>match stepT (denote tb) p w s t with
        |some r=>runK tb p w m ann n r.1 r.2
        |none=>none
def cF {tb:String->Option Builtin}{p:Program}{w:World}{m:Nat}{ann:Option Value}{k:Nat}:∀ {n:Nat}{s:SharedT}{t:Thread}{r:SharedT×Thread},runK tb p w m ann n s t=some r->iY tb p w m ann (n+k) s t=iY tb p w m ann k r.1 r.2
  |0,s,t,r,h=>by
    rw[Nat.zero_add];cases h
    rfl
  |n+1,s,t,r,h=>by
    rw[Nat.succ_add];unfold runK at h;conv=>lhs;unfold iY
    cases a:through t
    · rw[a]at h;dsimp only at h⊢
      cases b:stepOk m ann t
      · rw[b]at h;cases h
      · rw[b]at h;dsimp only at h⊢
        cases c:stepT (denote tb) p w s t with
        |none=>rw[c]at h;cases h
        |some r=>rw[c]at h;exact cF h
    · rw[a]at h;cases h
abbrev kT (x y:Str)(s:Stmt):Obj:=⟨.none,none,.func { name:=x,qualname:=y,params:=pq s,body:=.stmts (qC s),scope:=lP s,globals:=builtinsNs,closure:=[],defaults:=.none,kwdefaults:=.none },#[]⟩
abbrev bo (P:Params)(i:Nat):Obj:=(boot_heap P).objs.toList.getD i ⟨.none,none,.plain,#[]⟩
abbrev fR (p:Program):Env:={ scope:=p.main.scope,locals:=mainNs,globals:=mainNs,cells:=[],code:=.ref 13,frame:=some 14 }
abbrev FA:Frame:=.ret (λx=>Sem.bind (match x with| .ok f=>Sem.pure f| .error e=>Sem.raise e) (λ_=>ret .none)) none false [] (.builtin "claim.caller" {}) default []
abbrev x6 (p:Program)(X:List Stmt):Sem Fin:=Sem.bind (Sem.onRaise (execs X (fR p)) (leaving (fR p))) (λa=>Sem.pure (Fin.done a))
abbrev ku (p:Program)(X:List Stmt)(q:Pos):Thread:=⟨x6 p X,.body (ac p) (fR p),q,[FA]⟩
def uV {tb:String->Option Builtin}{p:Program}(h:blockStart (ac p) (fR p)=Sem.pure ()):denote tb (.body (ac p) (fR p))=x6 p (ac p):=by
  show Sem.bind (blockStart (ac p) (fR p)) (λ_=>x6 p (ac p))=_;rw[h]
  rfl
abbrev o0:Obj:=⟨.type "tuple",none,.seq #[] 0,#[]⟩
abbrev oN:Obj:=⟨.none,none,.fields #[],#[]⟩
abbrev oL:List Str->Nat->List Value
  | [],_=>[]
  |x::r,t=>.str x t::oL r (t+1)
abbrev oS (l:List Str)(t:Nat):Obj:=⟨.type "tuple",none,.seq (Array.mk (oL l t)) 0,#[]⟩
abbrev Fj (l:List (Int×Nat)):Array Value:=(l.flatMap λp=>[.int p.1 0,.int 0 0,.ref p.2]).toArray
abbrev FH:List (Int×Nat):=[(1,20),(5,27),(7,40),(12,59),(19,78),(25,97),(31,116),(36,135),(41,154),(48,173),(50,180),(54,188),(56,195),(58,202),(66,209),(89,257),(92,264),(95,271),(97,285),(110,318),(123,351)]
abbrev FD:List (Int×Nat):=FH++[(136,384),(147,417),(160,450),(166,457),(169,464),(210,554),(212,561),(214,568),(231,602),(238,628),(245,654),(252,680)]
abbrev Gy:List (Int×Nat):=FD++[(259,706),(266,732),(276,759),(282,766),(284,773),(286,780),(334,864),(340,871),(356,878),(365,883),(373,890),(375,897),(386,904),(395,911),(406,918),(424,925),(439,932),(451,939),(463,946),(465,953),(468,960),(475,965),(490,972),(494,979),(509,986)]
abbrev oI (l c a:Nat):Obj:=⟨.none,none,.fields #[.int l 0,.int c 0,.ref a],#[]⟩
abbrev oK (x:Str)(t l r:Nat):Obj:=⟨.type "code",none,.fields #[.str x t,.str x (t+1),.str "/claim/cut.py" (t+2),.int l 0,.int 0 0,.int 0 0,.int 0 0,.int 0 0,.ref r,.bool false,.int 181 0,.ref (r+1),.none,.none,.none,.none,.int (t+3:Nat) 0,.int l 0,.str "/claim/cut.py" (t+4)],#[]⟩
abbrev oC (x y:Str)(t l n r u:Nat):Obj:=⟨.type "code",none,.fields #[.str x t,.str y (t+1),.str "/claim/cut.py" (t+2),.int l 0,.int n 0,.int 0 0,.int 0 0,.int 3 0,.ref r,.bool true,.int 181 0,.ref (r+1),.none,.ref (r+2),.ref (r+3),.ref (r+4),.int u 0,.int l 0,.str "/claim/cut.py" (u+1)],#[]⟩
abbrev oF (x y:Str)(s:Stmt)(m:Str)(t c:Nat)(d:Value:=.none):Obj:=⟨.type "function",none,.func (fnOf x y (pq s) (qC s) (lP s) d .none .none (.str m t) none (.ref c) .none),#[]⟩
abbrev oR (a b:Nat)(m:Str)(t:Nat):Obj:=⟨.type "frame",none,.plain,#[some (.ref a),some (.ref 3),some (.ref b),none,some (.str m t),none,some (.ref 0)]⟩
abbrev oX (x:Str)(b m:List Value)(n:Addr)(s:List Value)(r t u:Nat)(w:String):Obj:=⟨.type "type",none,.cls ⟨x,b,m,n,x,true,[],s,false,none,false⟩,#[some (.ref r),none,some (.str x t),some (.str x u),some (.builtin w),some (.bool true)]⟩
abbrev oU (a:Addr):Obj:=⟨.type "super",none,.fields #[.ref a,.ref a,.ref a],#[]⟩
abbrev oJ (a:Addr):Obj:=⟨.type "builtin_function_or_method",none,.fields #[.builtin "object.__init_subclass__",.ref a],#[]⟩
abbrev oP:Obj:=⟨.type "builtin_function_or_method",none,.fields #[.builtin "type.__prepare__",.type "type"],#[]⟩
abbrev oQ (a:Addr):Obj:=⟨.type "tuple",none,.seq #[.ref a] 0,#[]⟩
abbrev fG (x y:Str)(s:Stmt)(m:Str)(mt:Nat)(l:List Str)(t ln n a:Nat)(r:List Obj):List Obj:=o0::oN::oS l (t+3)::o0::kT x y s::oC x y t ln n a (t+3+l.length)::oF x y s m mt (a+5)::r
abbrev oW:List (Nat×Obj)->List Obj->List Obj
  | [],l=>l
  |x::r,l=>(oW r l).set x.1 x.2
abbrev eV (x:Str)(t:Tok)(v:Value)(P:Params):DictEntry:=⟨PyData.keyHash P x,.str x t,v⟩
abbrev eM (t:Nat)(m:Str)(u:Nat):Params->DictEntry:=eV "__module__" t (.str m u)
abbrev eQ (t:Nat)(m:Str)(u:Nat):Params->DictEntry:=eV "__qualname__" t (.str m u)
abbrev eF (t l u:Nat):Params->DictEntry:=eV "__firstlineno__" t (.int l u)
abbrev eS (t a:Nat):Params->DictEntry:=eV "__static_attributes__" t (.ref a)
abbrev eN (t:Nat):Params->DictEntry:=eV "__doc__" t .none
abbrev eR (x:Str)(t a:Nat):Params->DictEntry:=eV x t (.ref a)
abbrev oD (P:Params)(es:List (Params->DictEntry))(n:Nat):Obj:=⟨.type "dict",none,.dict (Array.mk (es.map λf=>f P)) n,#[]⟩
abbrev Gw (P:Params):List Obj:=
bo P 0::
bo P 1::
bo P 2::
bo P 3::
bo P 4::
bo P 5::
bo P 6::
bo P 7::
bo P 8::
bo P 9::
bo P 10::
o0::
oN::
oK "<module>" 182 1 11::
oR 13 3 "__main__" 164::[]
abbrev Gh (x y:Str)(t l n r:Nat):Obj:=⟨.type "code",none,.fields #[.str x t,.str y (t+1),.str "/claim/cut.py" (t+2),.int l 0,.int n 0,.int 0 0,.int 0 0,.int 3 0,.ref r,.bool true,.int 181 0,.ref (r+1),.none,.none,.none,.ref (r+2),.int (t+3:Nat) 0,.int l 0,.str "/claim/cut.py" (t+4)],#[]⟩
abbrev oG (x b:String)(v:Value)(a t:Nat):Obj:=⟨.type "getset_descriptor",none,.fields #[.str (Str.ofString x) t,.ref a,.builtin b,v],#[]⟩
@[reducible]def Mt:Type:=Str×Str×List Str×Nat×Nat×List (Obj×Nat)
abbrev zu (a t:Nat)(s:Stmt)(m:Str×Nat)(x y:Str)(l:List Str)(ln n:Nat)(d:Value):List Obj:=match l with
  | []=>o0::oN::kT x y s::Gh x y t ln n a::oF x y s m.1 m.2 (a+3) d::[]
  |_=>o0::oN::oS l (t+3)::o0::kT x y s::oC x y t ln n a (t+3+l.length)::oF x y s m.1 m.2 (a+5) d::[]
abbrev Fy (a t:Nat)(s:Stmt)(m:Str×Nat)(q:Mt):List Obj:=match q.2.2.2.2.2 with
  | []=>zu a t s m q.1 q.2.1 q.2.2.1 q.2.2.2.1 q.2.2.2.2.1 .none
  |d::_=>d.1::zu (a+1) (t+d.2) s m q.1 q.2.1 q.2.2.1 q.2.2.2.1 q.2.2.2.2.1 (.ref a)
abbrev zG (q:Mt)(a:Nat):Nat:=match q.2.2.1 with
  | []=>a+5+q.2.2.2.2.2.length
  |_=>a+7+q.2.2.2.2.2.length
abbrev C4 (q:Mt)(t:Nat):Nat:=match q.2.2.2.2.2 with
  | []=>t+6+q.2.2.1.length
  |d::_=>t+d.2+6+q.2.2.1.length
abbrev FO (i:Nat)(m:Str×Nat):Nat->List Mt->Nat->Nat->(List Obj->Nat->Nat->List Obj)
  |_,[],_,_=>λr _ _=>r
  |j,q::l,a,t=>λr x y=>Fy a t (inClass (top i) j) m q++FO i m (j+1) l (zG q a) (C4 q t) r x y
abbrev FX:List Mt->Nat->Nat
  | [],a=>a
  |q::l,a=>FX l (zG q a)
abbrev FN:List Mt->Nat->Nat
  | [],a=>a
  |q::l,a=>FN l (C4 q a)
abbrev FP:List Mt->Nat->Nat->List (Params->DictEntry)->List (Params->DictEntry)
  | [],_,_,r=>r
  |q::l,a,t,r=>eR q.1 (C4 q t-1) (zG q a-1)::FP l (zG q a) (C4 q t) r
abbrev Fz:List Mt->Nat->List Value
  | [],_=>[]
  |q::l,a=>.int q.2.2.2.1 0::.int 4 0::.ref (zG q a-2)::Fz l (zG q a)
@[reducible]def It:Type:=(Params->List Obj)×List (Params->DictEntry)×List Value
abbrev iF (a t i:Nat)(m:Str×Nat)(x:Str)(l:List Str)(ln n:Nat)(d:List (Obj×Nat):=[]):It:=(λ_=>Fy a t (top i) m (x,x,l,ln,n,d),eR x (C4 (x,x,l,ln,n,d) t-1) (zG (x,x,l,ln,n,d) a-1)::[],.int ln 0::.int 0 0::.ref (zG (x,x,l,ln,n,d) a-2)::[])
abbrev iR (o:Params->List Obj):It:=(o,[],[])
abbrev iE (x:Str)(t:Nat)(v:Value):It:=(λ_=>[],[eV x t v],[])
abbrev iC (a T i:Nat)(m:Str×Nat)(x:Str)(ln:Nat)(ms:List Mt)(st:List Str)(sub:List Value:=[]) (br:Nat:=0) (mro:List Value:=[]) (w:String:=""):It:=
  let b:=FX ms (a+7)
  let s:=FN ms (T+12)
  let e:=s+st.length
  let h (z:List (Params->DictEntry)):=eF (T+11) ln (T+10)::FP ms (a+7) (T+12) (eS e b::z)
  let o (y:List (Params->DictEntry)) (z k:Obj) (n:Nat) (r:List Obj) (P:Params):List Obj:=z::oP::oD P (eM (T+7) m.1 m.2::eQ (T+9) x (T+8)::h []) (4+ms.length)::o0::⟨.none,none,.fields (Array.mk (Fz ms (a+7))),#[]⟩::oK x (T+2) ln (a+3)::oR (a+5) (a+2) m.1 m.2::FO i m 0 ms (a+7) (T+12) ((match st with| []=>o0|_=>oS st s)::oD P (eM (T+7) m.1 m.2::h y) n::k::r) 0 0
  match br with
  |0=>(o [eR "__dict__" (e+2) (b+3),eR "__weakref__" (e+4) (b+4),eN (e+5)] o0 ⟨.type "type",none,.cls ⟨x,[.type "object"],[.ref (b+2),.type "object"],b+1,x,true,[],sub,false,none,false⟩,#[none,none,some (.str x T),some (.str x (T+8)),some (.builtin "object.__new__"),some (.bool true)]⟩ 4 [oG "__dict__" "function.__dict__" (.builtin "function.__dict__#set") (b+2) (e+1),oG "__weakref__" "ExceptionGroup.__weakref__" .none (b+2) (e+3),oU (b+2),oJ (b+2)],eR x (e+7) (b+2)::[],.int ln 0::.int 0 0::.ref (a+5)::[])
  |_=>(o [eN (e+1)] (oQ br) (oX x [.ref br] (.ref (b+2)::.ref br::mro) (b+1) sub a T (T+8) w) 2 [oU (b+2),oJ (b+2)],eR x (e+3) (b+2)::[],.int ln 0::.int 0 0::.ref (a+5)::[])
abbrev Ed (P:Params)(nm:Str)(nt n:Nat)(l:List It):List Obj:=bo P 0::bo P 1::bo P 2::oD P (eV "__name__" 165 (.str nm nt)::eN 166::eV "__package__" 167 .none::eV "__loader__" 168 (.builtin "__main__.__loader__#opaque")::eV "__spec__" 169 .none::eR "__annotations__" 170 6::eR "__builtins__" 171 4::eV "__file__" 173 (.str "/claim/cut.py" 172)::eV "__cached__" 174 .none::l.flatMap (·.2.1)) n::bo P 4::bo P 5::bo P 6::bo P 7::bo P 8::bo P 9::bo P 10::o0::⟨.none,none,.fields (Array.mk (l.flatMap (·.2.2))),#[]⟩::oK "<module>" 182 1 11::oR 13 3 "__main__" 164::l.flatMap (·.1 P)
abbrev Gi:Str×Nat:=("__main__",164)
abbrev A4:Str×Nat:=("haulbell.errors",194)
abbrev FU:Str×Nat:=("haulbell.wholes",397)
abbrev D0:Str×Nat:=("haulbell.boxes",415)
abbrev zw:Str×Nat:=("haulbell.deeds",520)
abbrev EO:Str×Nat:=("haulbell.machine",769)
abbrev EV:Str×Nat:=("haulbell.hops",900)
abbrev Ca:Str×Nat:=("haulbell.longs",962)
abbrev En:Str×Nat:=("haulbell.store",1156)
abbrev jz:Str×Nat:=("law_haulbell_k42_no_machines",1294)
abbrev BJ (a T i:Nat)(m:Str×Nat)(x:Str)(ln:Nat)(ms:List Mt)(st:List Str)(sub:List Value:=[]):It:=iC a T i m x ln ms st sub 31 [.type "ValueError",.type "Exception",.type "BaseException",.type "object"] "ValueError.__new__"
abbrev sD (a T i:Nat)(m:Str×Nat)(x:Str)(ln:Nat)(ms:List Mt)(st:List Str)(sub:List Value:=[]):It:=iC a T i m x ln ms st sub 275 [.type "object"] "object.__new__"
abbrev we:List It:=
iF 15 187 0 Gi "_wall" ["k"] 1 1::
iE "HaulError" 213 (.ref 31)::
iR (λP=>[⟨.type "tuple",none,.seq #[.type "ValueError"] 0,#[]⟩,oP,oD P [eM 203 "haulbell.errors" 194,eQ 205 "HaulError" 204,eF 207 5 206,eS 208 29] 4,o0,oN,oK "HaulError" 198 5 25,oR 27 24 "haulbell.errors" 194,o0,oD P [eM 203 "haulbell.errors" 194,eF 207 5 206,eS 208 29,eR "__weakref__" 210 32,eN 211] 3,oX "HaulError" [.type "ValueError"] [.ref 31,.type "ValueError",.type "Exception",.type "BaseException",.type "object"] 30 [.ref 51,.ref 70,.ref 89,.ref 108,.ref 127,.ref 146,.ref 165] 22 196 204 "ValueError.__new__",⟨.type "getset_descriptor",none,.fields #[.str "__weakref__" 209,.ref 31,.builtin "ExceptionGroup.__weakref__",.none],#[]⟩,oU 31,oJ 31])::
BJ 35 214 3 A4 "NoStore" 7 [("__init__","NoStore.__init__",["self","at"],9,2,[])] ["at"]::
BJ 54 239 4 A4 "NoLeave" 12 [("__init__","NoLeave.__init__",["self","low","behind","word"],14,4,[])] ["behind","low","word"]::
BJ 73 268 5 A4 "Stop" 19 [("__init__","Stop.__init__",["self","deed","cell"],21,3,[])] ["cell","deed"]::
BJ 92 295 6 A4 "NoFit" 25 [("__init__","NoFit.__init__",["self","box","number"],27,3,[])] ["box","number"]::
BJ 111 322 7 A4 "NoDeed" 31 [("__init__","NoDeed.__init__",["self","word"],33,2,[])] ["word"]::
BJ 130 347 8 A4 "NoRows" 36 [("__init__","NoRows.__init__",["self","at"],38,2,[])] ["at"]::
BJ 149 372 9 A4 "NoPlace" 41 [("__init__","NoPlace.__init__",["self","at"],43,2,[])] ["at"]::
iE "BOUND" 400 (.int 1000000000 399)::
iF 168 401 12 FU "is_whole" ["thing"] 48 1::
iF 175 408 13 FU "is_content" ["thing"] 50 1::
iE "NAMES" 423 (.ref 182)::
iR (λ_=>[oS ["here","there","left","way","sign","met"] 417])::
iF 183 424 16 D0 "is_box" ["thing"] 54 1::
iF 190 431 17 D0 "is_number" ["thing"] 56 1::
iF 197 438 18 D0 "fits" ["box","thing"] 58 2::
iC 204 446 19 D0 "Boxes" 66 [("__init__","Boxes.__init__",["self","here","there","left","way","sign","met","handed","box","number"],68,7,[(⟨.type "tuple",none,.seq #[.int 0 458,.int 0 459,.int 0 460,.int 1 461,.int 0 462,.int 0 463] 0,#[]⟩,6)]),("holds","Boxes.holds",["self","box"],75,2,[]),("give","Boxes.give",["self","box","number"],78,3,[]),("told","Boxes.told",[],81,1,[]),("copied","Boxes.copied",["self","other"],84,1,[])] ["numbers"]::
iF 252 522 21 zw "check_box" ["word","box"] 89 2::
iF 259 530 22 zw "check_number" ["word","number"] 92 2::
iC 266 538 0 zw "Deed" 95 [] [] [.ref 310,.ref 343,.ref 376,.ref 409,.ref 442,.ref 594,.ref 620,.ref 646,.ref 672,.ref 698,.ref 724,.ref 750]::
sD 280 558 24 zw "Set" 97 [("__init__","Set.__init__",["self","box","number"],99,3,[]),("step","Set.step",["self","boxes","store"],105,3,[]),("words","Set.words",["self"],108,1,[])] ["box","number"]::
sD 313 601 25 zw "Add" 110 [("__init__","Add.__init__",["self","box","number"],112,3,[]),("step","Add.step",["self","boxes","store"],118,3,[]),("words","Add.words",["self"],121,1,[])] ["box","number"]::
sD 346 644 26 zw "Take" 123 [("__init__","Take.__init__",["self","box","other"],125,3,[]),("step","Take.step",["self","boxes","store"],131,3,[]),("words","Take.words",["self"],134,1,[])] ["box","other"]::[]
abbrev iJ:List It:=
sD 379 687 27 zw "Read" 136 [("__init__","Read.__init__",["self","box"],138,2,[]),("step","Read.step",["self","boxes","store"],142,3,[]),("words","Read.words",["self"],145,1,[])] ["box"]::
sD 412 728 28 zw "Write" 147 [("__init__","Write.__init__",["self","box"],149,2,[]),("step","Write.step",["self","boxes","store"],153,3,[]),("words","Write.words",["self"],156,1,[])] ["box"]::
iE "MOST_ROWS" 772 (.int 24 771)::
iF 445 773 31 EO "check_rows" ["rows","at","thing"] 160 1::
iF 452 782 32 EO "check_place" ["at","many"] 166 2::
iC 459 790 33 EO "Machine" 169 [("__init__","Machine.__init__",["self","rows","store","boxes","at"],171,5,[(⟨.type "tuple",none,.seq #[.int 0 802] 0,#[]⟩,1)]),("ended","Machine.ended",["self"],179,1,[]),("step_on","Machine.step_on",["self","store"],182,2,[]),("step","Machine.step",["self"],185,1,[]),("run","Machine.run",["self","most"],188,2,[]),("why","Machine.why",["self"],191,1,[]),("state","Machine.state",["self"],194,1,[]),("leaves","Machine.leaves",["self"],197,1,[]),("leave","Machine.leave",["self","low","behind","word"],200,4,[]),("rows","Machine.rows",[],203,1,[]),("copied","Machine.copied",["self"],206,1,[])] ["at","boxes","deeds","store"]::
iE "MOST_HOPPED" 903 (.int 24 902)::
iF 549 904 36 EV "is_many" ["thing"] 210 1::
iF 556 911 37 EV "is_on" ["thing"] 212 1::
sD 563 918 38 EV "Hop" 214 [("__init__","Hop.__init__",["self","many","on"],216,3,[(⟨.type "tuple",none,.seq #[.none] 0,#[]⟩,0)]),("step","Hop.step",["self","boxes","store"],222,3,[]),("words","Hop.words",["self","told"],225,1,[])] ["many","on"]::
sD 597 964 40 Ca "Copy" 231 [("step","Copy.step",["self","boxes","store"],233,3,[]),("words","Copy.words",["self"],236,1,[])] []::
sD 623 996 41 Ca "Fill" 238 [("step","Fill.step",["self","boxes","store"],240,3,[]),("words","Fill.words",["self"],243,1,[])] []::
sD 649 1028 42 Ca "Seek" 245 [("step","Seek.step",["self","boxes","store"],247,3,[]),("words","Seek.words",["self"],250,1,[])] []::
sD 675 1060 43 Ca "Match" 252 [("step","Match.step",["self","boxes","store"],254,3,[]),("words","Match.words",["self"],257,1,[])] []::[]
abbrev Dz:List It:=
sD 701 1092 44 Ca "Shift" 259 [("step","Shift.step",["self","boxes","store"],261,3,[]),("words","Shift.words",["self"],264,1,[])] []::
sD 727 1124 45 Ca "Turn" 266 [("step","Turn.step",["self","boxes","store"],268,3,[]),("words","Turn.words",["self"],271,1,[])] []::
iE "MOST_CELLS" 1159 (.int 60 1158)::
iE "LEAVES" 1163 (.ref 753)::
iR (λ_=>[oS ["open","look","shut"] 1160])::
iF 754 1164 49 En "check_cells" ["cells","at","thing"] 276 1::
iF 761 1173 50 En "is_leave" ["word"] 282 1::
iF 768 1180 51 En "is_within" ["low","behind","size"] 284 3::
iC 775 1189 52 En "Store" 286 [("__init__","Store.__init__",["self","cells"],288,2,[]),("size","Store.size",["self"],293,1,[]),("told","Store.told",["self"],296,1,[]),("leaves","Store.leaves",["self"],299,1,[]),("leave","Store.leave",["self","low","behind","word","cell"],302,4,[]),("may","Store.may",["self","deed","cell"],308,3,[]),("look","Store.look",["self","cell"],315,2,[]),("put","Store.put",["self","cell","content"],320,3,[]),("restore","Store.restore",["self","cell","content"],325,3,[]),("copied","Store.copied",["self","other"],328,1,[])] ["contents","permits"]::
iF 859 1296 54 jz "_law_hand" ["_law_script","_law_cells_here","_law_fold","_law_cell"] 334 1::
iF 866 1306 55 jz "_law_draw" ["_law_hand_here","_law_many","_law_rest","_law_cell","_law_one","_law_two"] 340 2::
iF 873 1318 56 jz "_law_content" ["_law_hand_here","_law_way"] 356 1::
iF 880 1326 57 jz "_law_cells" [] 365 2::
iF 885 1332 58 jz "_law_whole" ["_law_thing"] 373 1::
iF 892 1339 59 jz "_law_odd" ["_law_hand_here","_law_low","_law_high","_law_way"] 375 3::
iF 899 1349 60 jz "_law_spot" ["_law_hand_here","_law_many","_law_way"] 386 2::
iF 906 1358 61 jz "_law_six" ["_law_hand_here","_law_cells_here","_law_many","_law_way","_law_left","_law_sign","_law_here","_law_there"] 395 2::
iF 913 1372 62 jz "_law_spec" ["_law_hand_here","_law_size","_law_way","_law_names","_law_box","_law_pick"] 406 2::
iF 920 1384 63 jz "_law_deed" ["_law_spec_here","_law_word"] 424 1::
iF 927 1392 64 jz "_law_long" ["_law_word"] 439 1::
iF 934 1399 65 jz "_law_told" ["_law_rows","_law_store","_law_boxes","_law_at","_law_machine","e"] 451 4::
iF 941 1411 66 jz "_law_alike" ["_law_found","_law_due"] 463 2::
iF 948 1419 67 jz "_law_no_deed" ["_law_hand_here","_law_store","_law_boxes","_law_some"] 465 3::
iF 955 1429 68 jz "_law_no_list" ["_law_hand_here","_law_deeds","_law_way"] 468 2::
iF 962 1438 69 jz "_law_wrong" [] 475 4::
iF 967 1444 70 jz "_law_copied" ["_law_rows"] 490 1::
iF 974 1451 71 jz "_law_no_leave" ["_law_hand_here","_law_machine","_law_size","_law_low","_law_wrong_here","_law_one","_law_ahead","e"] 494 3::
iF 981 1465 72 jz "_law_given" ["_law_hand_here","_law_machine","_law_size","_law_leaves","_law_turn","_law_low","_law_behind","_law_word","_law_cell"] 509 3::[]
abbrev F9 (P:Params):List Obj:=oW [(12,⟨.none,none,.fields (Fj FH),#[]⟩),(275,⟨.type "type",none,.cls ⟨"Deed",[.type "object"],[.ref 275,.type "object"],274,"Deed",true,[],[.ref 310,.ref 343,.ref 376],false,none,false⟩,#[none,none,some (.str "Deed" 538),some (.str "Deed" 546),some (.builtin "object.__new__"),some (.bool true)]⟩)] (Ed P "haulbell.deeds" 520 32 we)
abbrev F8 (P:Params):List Obj:=oW [(12,⟨.none,none,.fields (Fj FD),#[]⟩),(275,⟨.type "type",none,.cls ⟨"Deed",[.type "object"],[.ref 275,.type "object"],274,"Deed",true,[],[.ref 310,.ref 343,.ref 376,.ref 409,.ref 442,.ref 594,.ref 620,.ref 646,.ref 672,.ref 698],false,none,false⟩,#[none,none,some (.str "Deed" 538),some (.str "Deed" 546),some (.builtin "object.__new__"),some (.bool true)]⟩)] (Ed P "haulbell.longs" 962 46 (we++iJ))
abbrev Gf (P:Params):List Obj:=oW [(12,⟨.none,none,.fields (Fj Gy),#[]⟩)] (Ed P "law_haulbell_k42_no_machines" 1294 73 (we++iJ++Dz))
abbrev S0 (P:Params)(os:OsState):SharedT:=⟨Ce 0 .nil (Gw P),15,(boot_heap P).life,Array.mk [],boot_drawn,187,os⟩
abbrev q0:Pos:=⟨0,0,0,0⟩
abbrev S1 (P:Params)(os:OsState):SharedT:=⟨Ce 0 .nil (F9 P),379,(boot_heap P).life,Array.mk [],boot_drawn,687,os⟩
abbrev q1:Pos:=⟨123,0,135,45⟩
abbrev S2 (P:Params)(os:OsState):SharedT:=⟨Ce 0 .nil (F8 P),701,(boot_heap P).life,Array.mk [],boot_drawn,1092,os⟩
abbrev q2:Pos:=⟨252,0,258,24⟩
abbrev S3 (P:Params)(os:OsState):SharedT:=⟨Ce 0 .nil (Gf P),988,(boot_heap P).life,Array.mk [],boot_drawn,1480,os⟩
abbrev q3:Pos:=⟨509,0,523,15⟩
abbrev F0 (P:Params):List Obj:=Ed P "law_haulbell_k42_no_machines" 1294 74 (we++iJ++Dz++[iF 988 1480 73 jz "law" (ss 16 "law") 524 1])
abbrev K0 (P:Params):PySem.W.Frag:=D6.map λa=>(a,(F0 P).getD a oN)
abbrev m8 (p:Program):Program:=PySem.W.view p [73]
abbrev tZ:List Str:="_wall"::"HaulError"::"NoStore"::"NoLeave"::"Stop"::"NoFit"::"NoDeed"::"NoRows"::"NoPlace"::"BOUND"::"is_whole"::"is_content"::"NAMES"::"is_box"::"is_number"::"fits"::"Boxes"::"check_box"::"check_number"::"Deed"::"Set"::"Add"::"Take"::"Read"::"Write"::"MOST_ROWS"::"check_rows"::"check_place"::"Machine"::"MOST_HOPPED"::"is_many"::"is_on"::"Hop"::"Copy"::"Fill"::"Seek"::"Match"::"Shift"::"Turn"::"MOST_CELLS"::"LEAVES"::"check_cells"::"is_leave"::"is_within"::"Store"::"_law_hand"::"_law_draw"::"_law_content"::"_law_cells"::"_law_whole"::"_law_odd"::"_law_spot"::"_law_six"::"_law_spec"::"_law_deed"::"_law_long"::"_law_told"::"_law_alike"::"_law_no_deed"::"_law_no_list"::"_law_wrong"::"_law_copied"::"_law_no_leave"::"_law_given"::[]
end My
open PySem PySem.W in
set_option maxHeartbeats 0 in
def My.AY (w:World)(os:OsState):My.runK treeTable My.pr w 11 (some (.ref 6)) 12 (My.D3 w.params os) (topStub My.pr)=some (My.S0 w.params os,⟨denote treeTable (.body (ac My.pr) (My.fR My.pr)),.body (ac My.pr) (My.fR My.pr),default,[My.FA]⟩):=by
  delta My.pr;rewrite[Fast.te2368527892694137696,Fast.te14364793385576792824]
  kernel_rfl
open PySem PySem.W in
set_option maxHeartbeats 0 in
def My.Au (w:World)(os:OsState)(B:List Stmt):My.runK treeTable My.pr w 11 (some (.ref 6)) 3690 (My.S0 w.params os) (My.ku My.pr (((ac My.pr).drop 0).take 27++B) My.q0)=some (My.S1 w.params os,My.ku My.pr B My.q1):=by
  delta My.pr;rewrite[Fast.te2368527892694137696,Fast.te14364793385576792824]
  kernel_rfl
open PySem PySem.W in
set_option maxHeartbeats 0 in
def My.Bc (w:World)(os:OsState)(B:List Stmt):My.runK treeTable My.pr w 11 (some (.ref 6)) 2741 (My.S1 w.params os) (My.ku My.pr (((ac My.pr).drop 27).take 17++B) My.q1)=some (My.S2 w.params os,My.ku My.pr B My.q2):=by
  delta My.pr;rewrite[Fast.te2368527892694137696,Fast.te14364793385576792824]
  kernel_rfl
open PySem PySem.W in
set_option maxHeartbeats 0 in
def My.AE (w:World)(os:OsState)(B:List Stmt):My.runK treeTable My.pr w 11 (some (.ref 6)) 1795 (My.S2 w.params os) (My.ku My.pr (((ac My.pr).drop 44).take 29++B) My.q2)=some (My.S3 w.params os,My.ku My.pr B My.q3):=by
  delta My.pr;rewrite[Fast.te2368527892694137696,Fast.te14364793385576792824]
  kernel_rfl
open PySem PySem.W in
set_option maxHeartbeats 0 in
def My.DT:LeftO My.pr (My.m8 My.pr) My.tZ (λs=>xlAt (My.m8 My.pr) [] s&&recOk PySem.Challenge.rw_haulbell_k42_no_machines.row.records s) (λs=>My.D6.map s.heap.get?) (λw=>(My.K0 w.params).map λp=>some p.2) 16666:=by
  refine My.rF (by kernel_rfl) rfl (λ_=>by kernel_rfl) (λ_=>by kernel_rfl) (λ_=>by kernel_rfl) λw os=>?_
  have d:denote treeTable (.body (ac My.pr) (My.fR My.pr))=My.x6 My.pr (ac My.pr):=My.uV (by kernel_rfl);have e:My.iY treeTable My.pr w 11 (some (.ref 6)) (12+(3690+(2741+(1795+(8428))))) (My.D3 w.params os) (topStub My.pr)=My.iY treeTable My.pr w 11 (some (.ref 6)) 8428 (My.S3 w.params os) (My.ku My.pr ((ac My.pr).drop 73) My.q3):=by
    rw[My.cF (My.AY w os)];dsimp only;rw[d];show My.iY treeTable My.pr w 11 (some (.ref 6)) _ (My.S0 w.params os) (My.ku My.pr ((ac My.pr).drop 0) My.q0)=_;rw[show(ac My.pr).drop 0=((ac My.pr).drop 0).take 27++(ac My.pr).drop 27 from by
      rw[show(ac My.pr).drop 27=((ac My.pr).drop 0).drop 27 by rw[List.drop_drop],List.take_append_drop],My.cF (My.Au w os _)]
    rw[show(ac My.pr).drop 27=((ac My.pr).drop 27).take 17++(ac My.pr).drop 44 from by
      rw[show(ac My.pr).drop 44=((ac My.pr).drop 27).drop 17 by rw[List.drop_drop],List.take_append_drop],My.cF (My.Bc w os _)]
    rw[show(ac My.pr).drop 44=((ac My.pr).drop 44).take 29++(ac My.pr).drop 73 from by
      rw[show(ac My.pr).drop 73=((ac My.pr).drop 44).drop 29 by rw[List.drop_drop],List.take_append_drop],My.cF (My.AE w os _)]
  rw[show(16666:Nat)=12+(3690+(2741+(1795+(8428)))) from rfl,e]
  delta My.pr;rewrite[Fast.te4187177175401517315,Fast.te5923862056798008813,Fast.te2368527892694137696,Fast.te14364793385576792824]
  kernel_rfl
set_option Elab.async false
open List(mem_range filterMap_cons mem_cons_self mem_cons_of_mem mem_cons mem_append mem_append_left getElem?_set_self getElem?_set_ne mem_append_right size_toArray any_eq_false length_cons map_cons length_map append_nil nodup_cons of_mem_zip length_take getElem?_append_right getElem?_map take_sublist mem_of_getElem? length_append length_drop length_set all_cons any_cons replicate_succ flatten_cons append_assoc foldl_cons length_singleton nil_append find?_cons length_nil forIn_cons forIn_nil getElem?_eq_getElem getElem_mem drop_zero lookup_cons take_of_length_le not_mem_nil all_eq_true length_eq_zero_iff zip_cons_cons zip_append take_append_drop isEmpty_iff mem_singleton take_succ map_replicate map_append)
@[reducible]def GA:Type:=Option PySem.Value->PySem.Shared->Prop
@[reducible]def GB:Type:=Unit->PySem.Shared->Prop
@[reducible]def GC:Type:=PySem.Value->PySem.Shared->Prop
@[reducible]def GD:Type:=List (PySem.Addr×PySem.Obj)
@[reducible]def GF:Type:=PySem.Str->Option PySem.Value
namespace L2
open PySem PySem.Spec PyProof.Rows
@[reducible]def Key:=Sum Int Str
abbrev jt:Key->Value->Bool
 | .inl k,v=>Value.isInt k v
 | .inr x,v=>Value.isStrOf x v
abbrev Ff (w:World):Key->Int
 | .inl k=>hashInt k
 | .inr x=>hashStr w x
def ax:∀ {k:Key}{v:Value},jt k v=true->(∃ i t,k=Sum.inl i/\v=Value.int i t)\/(∃ x t,k=Sum.inr x/\v=Value.str x t)
 | .inl i,v,h=>by
  obtain⟨t,e⟩:=Value.isInt_shape (k:=i) (v:=v) h;exact .inl ⟨i,t,rfl,e⟩
 | .inr x,v,h=>by
  obtain⟨t,e⟩:=Value.isStrOf_shape (x:=x) (v:=v) h;exact .inr ⟨x,t,rfl,e⟩
def rH (i:Int)(t:Tok):jt (.inl i) (.int i t)=true:=by simp[jt,Value.isInt]
def qM (x:Str)(t:Tok):jt (.inr x) (.str x t)=true:=by simp[jt,Value.isStrOf]
def zZ (a b:Int):decide ((Sum.inl a:Key)=Sum.inl b)=(a ==b):=by
 by_cases e:a=b
 .subst e;simp
 .have h:¬ (Sum.inl a:Key)=Sum.inl b:=λq=>e (Sum.inl.inj q)
  rw[decide_eq_false h];exact(beq_eq_false_iff_ne.mpr e).symm
def zV (a b:Str):decide ((Sum.inr a:Key)=Sum.inr b)=decide (a=b):=by
 by_cases e:a=b
 .subst e;simp
 .have h:¬ (Sum.inr a:Key)=Sum.inr b:=λq=>e (Sum.inr.inj q)
  rw[decide_eq_false h,decide_eq_false e]
def Ba (a:Int)(b:Str):decide ((Sum.inl a:Key)=Sum.inr b)=false:=decide_eq_false (λq=>nomatch q)
def BR (a:Str)(b:Int):decide ((Sum.inr a:Key)=Sum.inl b)=false:=decide_eq_false (λq=>nomatch q)
abbrev av (prog:Program)(w:World):PySem.KeyKind prog w Key where
 is:=jt
 hash:=Ff w
 inj:=λv a b ha hb=>by
  rcases ax ha with⟨i,t,rfl,rfl⟩|⟨x,t,rfl,rfl⟩
  .rcases ax hb with⟨j,u,rfl,e⟩|⟨y,u,rfl,e⟩
   .injection e with e1 _;rw[e1]
   .exact nomatch e
  .rcases ax hb with⟨j,u,rfl,e⟩|⟨y,u,rfl,e⟩
   .exact nomatch e
   .injection e with e1 _;rw[e1]
 byValue:=λk v h=>by
  rcases ax h with⟨i,t,rfl,rfl⟩|⟨x,t,rfl,rfl⟩<;>rfl
 pyHash:=λhv h=>by
  rcases ax hv with⟨i,t,rfl,rfl⟩|⟨x,t,rfl,rfl⟩
  .exact wpAny_pyHash_int h
  .exact wpAny_pyHash_str h
 eqBool:=λhu hv h=>by
  rcases ax hu with⟨i,t,rfl,rfl⟩|⟨x,t,rfl,rfl⟩
  .rcases ax hv with⟨j,u,rfl,rfl⟩|⟨y,u,rfl,rfl⟩
   .rw[zZ]at h;exact wpAny_eqBool_int h
   .rw[Ba]at h;exact SeqAt.EqAt.int_str i t y u _ _ _ _ h
  .rcases ax hv with⟨j,u,rfl,rfl⟩|⟨y,u,rfl,rfl⟩
   .rw[BR]at h;exact SeqAt.EqAt.str_int x t j u _ _ _ _ h
   .rw[zV]at h;exact wpAny_eqBool_str h
 «strs»:=λk x t v h=>by
  rcases ax h with⟨i,u,rfl,e⟩|⟨y,u,rfl,e⟩
  .exact nomatch e
  .injection e with e1 _
   subst e1;cases v<;>rfl
def mX (prog:Program)(w:World)(i:Int)(t:Tok):(av prog w).is (.inl i) (.int i t)=true:=rH i t
def lD (prog:Program)(w:World)(x:Str)(t:Tok):(av prog w).is (.inr x) (.str x t)=true:=qM x t
inductive V where
 |non|bl (b:Bool)|int (i:Int)|str (x:Str)|byt (b:Array UInt8)|flt (b:UInt64)|ref (a:Addr)|ty (n:String)
 deriving DecidableEq
abbrev RelV:V->Value->Prop
 | .non,u=>u=Value.none
 | .bl b,u=>u=Value.bool b
 | .int i,u=>∃ t,u=Value.int i t
 | .str x,u=>∃ t,u=Value.str x t
 | .byt b,u=>∃ t,u=Value.bytes b t
 | .flt b,u=>∃ t,u=Value.float b t
 | .ref a,u=>u=Value.ref a
 | .ty n,u=>u=Value.type n
@[reducible]def Vals:List V->List Value->Prop:=Paired RelV
variable {xs:List V}{us:List Value}
def Vals.length (r:Vals xs us):xs.length=us.length:=Paired.length r
def Vals.get:∀ {xs:List V}{us:List Value}{i:Nat}{x:V},Vals xs us->xs[i]? =some x->∃ u,us[i]? =some u/\RelV x u
 |_,_,_,_,.nil,e=>by simp at e
 |_,_,0,_,.cons r _,e=>by simp at e;subst e;exact⟨_,rfl,r⟩
 |_,_,i+1,x,.cons _ t,e=>by
  obtain⟨u,h1,h2⟩:=Vals.get (i:=i) (x:=x) t (by simpa using e);exact⟨u,by simpa using h1,h2⟩
variable {u:Value}
def Vals.set {x:V}(r:RelV x u):∀ {xs:List V}{us:List Value}(i:Nat),Vals xs us->Vals (xs.set i x) (us.set i u)
 |_,_,_,.nil=>.nil
 |_,_,0,.cons _ t=>.cons r t
 |_,_,i+1,.cons q t=>.cons q (Vals.set r i t)
def Vals.append:∀ {xs ys:List V}{us ws:List Value},Vals xs us->Vals ys ws->Vals (xs++ys) (us++ws)
 |_,_,_,_,.nil,s=>s
 |_,_,_,_,.cons r t,s=>.cons r (Vals.append t s)
def Vals.take:∀ {xs:List V}{us:List Value}(n:Nat),Vals xs us->Vals (xs.take n) (us.take n)
 |_,_,0,_=>.nil
 |_,_,_+1,.nil=>.nil
 |_,_,n+1,.cons r t=>.cons r (Vals.take n t)
def Vals.drop:∀ {xs:List V}{us:List Value}(n:Nat),Vals xs us->Vals (xs.drop n) (us.drop n)
 |_,_,0,r=>r
 |_,_,_+1,.nil=>.nil
 |_,_,n+1,.cons _ t=>Vals.drop n t
abbrev cA:Option V->Option Value->Prop
 |some v,some u=>RelV v u
 |none,none=>True
 |_,_=>False
abbrev KV {κ:Type}:List (κ×V)->List (κ×Value)->Prop:=Paired λ(p:κ×V) (q:κ×Value)=>p.1=q.1/\RelV p.2 q.2
abbrev kV:Key->V
 | .inl i=>.int i
 | .inr x=>.str x
inductive HO where
  |lst (xs:List V)
  |tup (xs:List V)
  |dK (kvs:List (Key×V))|dT (kvs:List (List Key×V))
  |set (S:Int->Bool) (n:Nat)
  |ins (C dx:Addr) (fs:List (Str×V))
  |own (x:Addr)
  |exc (C:Addr) (dx:Option Addr) (fs:List (Str×V)) (fr:Bool)
  |xd (fs:List (Str×V))
  |met (f x:Addr)
  |rng (lo hi:Int)
  |fZ (o:Obj) (u:HO)
  |tbl (ps:Array Value)
  |ext (φ:Heap->Prop)
@[reducible]def Hp:=Addr->Option HO
abbrev upd (H:Hp)(a:Addr)(o:HO):Hp:=λb=>if b=a then some o else H b
variable {H:Hp}{a:Addr}{o:HO}
def aj:upd H a o a=some o:=by unfold upd;rw[if_pos rfl]
variable {b:Addr}
def af (h:b≠a):upd H a o b=H b:=by unfold upd;rw[if_neg h]
def xq {u:HO}:upd (upd H a o) a u=upd H a u:=by
 funext b;unfold upd;split<;>rfl
def CJ {u:HO}(h:H a=some o)(h':H b=some u)(d:o≠u):a≠b:=by
 intro e;subst e;rw[h]at h';exact d (Option.some.inj h')
def aA (h:H a=some o)(h':H b=none):a≠b:=by
 intro e;subst e;rw[h]at h';cases h'
section
variable (P:Program) (w:World)
abbrev ak (H:Hp)(h:Heap)(a:Addr):HO->Prop
 | .lst xs=>xs.length<=bn/\∃ (its:List Value) (n:Nat),Vals xs its/\h.get? a=some { cls:=.type "list",data:=.seq its.toArray n }
 | .tup xs=>xs.length<=bn/\∃ its:List Value,Vals xs its/\IsTup h a its.toArray
 | .dK kvs=>kvs.length<=bn/\(a ==sysModules)=false/\∃ vs,KV kvs vs/\h.DictOf (av P w) a vs
 | .dT kvs=>kvs.length<=bn/\(a ==sysModules)=false/\∃ xs:List (List Key×Addr×Value),
   Paired (λ(p:List Key×V) (q:List Key×Addr×Value)=>p.1=q.1/\H q.2.1=some (.tup (p.1.map kV))/\RelV p.2 q.2.2) kvs xs/\
   ∃ o es ep,h.get? a=some o/\o.ExactDict/\o.data=.dict es ep/\es.toList=xs.map (entryOfKey (tupleKind (av P w)))/\(xs.map (·.1)).Nodup
 | .set S n=>h.SetOf (intKind P w) a S n
 | .ins C dx fs=>H dx=some (.own a)/\fs.length<=1000/\dx≠a/\h.get? a=some (W.instObj C dx)/\
   ∃ mA,h.Ns1 dx mA/\(∀ f,cA (fs.lookup f) (mA f))/\PySem.Within mA (fs.map (·.1))
 | .exc C dx fs fr=>(∃ vs,h.get? a=some { cls:=.ref C,dict:=dx,data:=.fields vs }/\vs.size=6/\(fr=true->vs[1]? =some Value.none)/\vs[2]? =some Value.none)/\
   ((dx=none/\fs=[])\/∃ d,dx=some d/\H d=some (.own a)/\fs.length<=1000/\d≠a/\∃ mA,h.Ns1 d mA/\(∀ f,cA (fs.lookup f) (mA f))/\PySem.Within mA (fs.map (·.1)))
 | .own _=>∃ o,h.get? a=some o
 | .xd fs=>∃ mA,h.Ns1 a mA/\∀ f,cA (fs.lookup f) (mA f)
 | .rng lo hi=>∃ t u v,h.get? a=some { cls:=.type "range",data:=.fields #[.int lo t,.int hi u,.int 1 v] }
 | .fZ o u=>h.get? a=some o/\ak H h a u
 | .tbl ps=>h.get? a=some { cls:=.none,data:=.fields ps }
 | .met f x=>h.get? a=some (W.methodObj (.ref f) (.ref x))
 | .ext φ=>φ h/\(∃ o,h.get? a=some o)/\∀ h1 h2:Heap,φ h1->(∀ o,h1.get? a=some o->h2.get? a=some o)->φ h2
abbrev eD (H:Hp)(h:Heap):Prop:=∀ a o,H a=some o->ak P w H h a o
end
section
variable {P:Program}{w:World}{H H':Hp}{h h':Heap}{a:Addr}{o:HO}
def ak.lt (x:ak P w H h a o):a<h.objs.size:=by
 cases o with
 |lst xs=>obtain⟨_,_,_,_,e⟩:=x;exact tz e
 |tup xs=>obtain⟨_,_,_,p⟩:=x;exact p.lt
 |dK kvs=>obtain⟨_,_,_,_,o,_,_,e,_⟩:=x;exact tz e
 |dT kvs=>obtain⟨_,_,_,_,o,_,_,e,_⟩:=x;exact tz e
 |set S n=>obtain⟨o,_,_,_,e,_⟩:=x;exact tz e
 |ins C dx fs=>obtain⟨_,_,_,e,_⟩:=x;exact tz e
 |exc C dx fs fr=>obtain⟨⟨_,e,_⟩,_⟩:=x;exact tz e
 |own y=>obtain⟨_,e⟩:=x;exact tz e
 |xd fs=>obtain⟨_,⟨_,_,_,e,_⟩,_⟩:=x;exact tz e
 |rng lo hi=>obtain⟨_,_,_,e⟩:=x;exact tz e
 |fZ ob u=>obtain⟨e,_⟩:=x;exact tz e
 |tbl ps=>exact tz (show h.get? a=some _ from x)
 |met f y=>exact tz (show h.get? a=some _ from x)
 |ext φ=>obtain⟨_,⟨_,e⟩,_⟩:=x;exact tz e
def Paired.Av {α β:Type}{F G:α->β->Prop}:∀ {l₁:List α}{l₂:List β},Paired F l₁ l₂->(∀ a b,F a b->G a b)->Paired G l₁ l₂
 |_,_,.nil,_=>.nil
 |_,_,.cons r t,f=>.cons (f _ _ r) (Paired.Av t f)
def ak.c9 (x:ak P w H h a o)(k:∀ b u,(b=a\/H b=some (.own a))->h.get? b=some u->h'.get? b=some u)
  (ho:∀ b,H b=some (.own a)->H' b=some (.own a)) (ht:∀ b xs,H b=some (.tup xs)->H' b=some (.tup xs)):ak P w H' h' a o:=by
 induction o with
 |lst xs=>obtain⟨z,its,n,r,e⟩:=x;exact⟨z,its,n,r,k _ _ (.inl rfl) e⟩
 |tup xs=>obtain⟨z,its,r,ob,e,c⟩:=x;exact⟨z,its,r,ob,k _ _ (.inl rfl) e,c⟩
 |dK kvs=>obtain⟨z,y,vs,r,ob,es,ep,e,c⟩:=x;exact⟨z,y,vs,r,ob,es,ep,k _ _ (.inl rfl) e,c⟩
 |dT kvs=>
  obtain⟨z,y,xs,r,ob,es,ep,e,c⟩:=x;exact⟨z,y,xs,Paired.Av r λp q z=>⟨z.1,ht _ _ z.2.1,z.2.2⟩,ob,es,ep,k _ _ (.inl rfl) e,c⟩
 |set S n=>obtain⟨ob,es,ep,t,e,c⟩:=x;exact⟨ob,es,ep,t,k _ _ (.inl rfl) e,c⟩
 |ins C dx fs=>
  obtain⟨d,z,ne,e,mA,⟨od,es,ep,e2,c⟩,r⟩:=x;exact⟨ho _ d,z,ne,k _ _ (.inl rfl) e,mA,⟨od,es,ep,k _ _ (.inr d) e2,c⟩,r⟩
 |exc C dx fs fr=>
  obtain⟨⟨vs,e,z⟩,q⟩:=x;refine⟨⟨vs,k _ _ (.inl rfl) e,z⟩,?_⟩;rcases q with q|⟨d,ed,d1,z1,ne,mA,⟨od,es,ep,e2,c⟩,r⟩
  .exact .inl q
  .exact .inr ⟨d,ed,ho _ d1,z1,ne,mA,⟨od,es,ep,k _ _ (.inr d1) e2,c⟩,r⟩
 |own y=>obtain⟨ob,e⟩:=x;exact⟨ob,k _ _ (.inl rfl) e⟩
 |xd fs=>obtain⟨mA,⟨od,es,ep,e,c⟩,r⟩:=x;exact⟨mA,⟨od,es,ep,k _ _ (.inl rfl) e,c⟩,r⟩
 |rng lo hi=>obtain⟨t,u,v,e⟩:=x;exact⟨t,u,v,k _ _ (.inl rfl) e⟩
 |fZ ob u ih=>obtain⟨e,q⟩:=x;exact⟨k _ _ (.inl rfl) e,ih q⟩
 |tbl ps=>
  have e:h.get? a=some { cls:=.none,data:=.fields ps }:=x;show h'.get? a=some { cls:=.none,data:=.fields ps };exact k a _ (.inl rfl) e
 |met f y=>
  have e:h.get? a=some (W.methodObj (.ref f) (.ref y)):=x;show h'.get? a=some (W.methodObj (.ref f) (.ref y));exact k a _ (.inl rfl) e
 |ext φ=>obtain⟨p,⟨o,e⟩,st⟩:=x;exact⟨st _ _ p λo q=>k _ _ (.inl rfl) q,⟨o,k _ _ (.inl rfl) e⟩,st⟩
def eD.lt (x:eD P w H h)(e:H a=some o):a<h.objs.size:=(x a o e).lt
def eD.fresh (x:eD P w H h)(e:h.objs.size<=a):H a=none:=by
 cases q:H a with
 |none=>rfl
 |some u=>exact absurd (nb (x.lt q) e) (Nat.lt_irrefl _)
def eD.kept (x:eD P w H h)(k:∀ b u,h.get? b=some u->h'.get? b=some u):eD P w H h':=λa o e=>
 (x a o e).c9 (λb u _ q=>k b u q) (λ_ q=>q) λ_ _ q=>q
def eD.laid (x:eD P w H h)(k:∀ b u,h.get? b=some u->h'.get? b=some u) (hp:h.objs.size<=a) (new:ak P w (upd H a o) h' a o):eD P w (upd H a o) h':=λb u e=>by
 have hn:=x.fresh hp
 by_cases hb:b=a
 .subst hb;rw[aj]at e;cases e;exact new
 .rw[af hb]at e;exact(x b u e).c9 (λc v _ q=>k c v q) (λc q=>by rw[af (aA q hn)];exact q) λc xs q=>by rw[af (aA q hn)];exact q
end
abbrev Rd (H:Hp)(a:Addr)(u:HO):Prop:=H a=some u\/∃ o,H a=some (.fZ o u)
variable {P:Program}{w:World}{h:Heap}
def Rd.ok {u:HO}(r:Rd H a u)(x:eD P w H h):ak P w H h a u:=by
 rcases r with r|⟨o,r⟩
 .exact x a u r
 .obtain⟨_,q⟩:=x a _ r;exact q
abbrev B7:Option HO->Prop
 |some (.lst _)=>True
 |some (.dK _)=>True
 |some (.dT _)=>True
 |some (.set _ _)=>True
 |some (.ins _ _ _)=>True
 |some (.exc _ _ _ fr)=>fr=true
 |some (.ext _)=>True
 |_=>False
abbrev Fix:HO->Prop
 | .fZ _ _=>True
 | .exc _ _ _ fr=>fr=false
 |_=>False
def Fix.Gv {u:HO}(f:Fix u):¬ B7 (some u):=by
 cases u<;>first|exact f.elim|exact λz=>z.elim|exact λz=>Bool.noConfusion (z.symm.trans f)
section
variable {P:Program}{w:World}{H:Hp}{h h':Heap}{x e:Addr}{o':HO}
def eD.write (ok:eD P w H h)(mu:B7 (H x))(he:e=x\/H e=some (.own x))(k:∀ b u,b≠e->h.get? b=some u->h'.get? b=some u) (heo:∃ u,h'.get? e=some u)
  (new:ak P w (upd H x o') h' x o'):eD P w (upd H x o') h':=λb u q=>by
 have nown:∀ c y,H c=some (.own y)->c≠x:=λc y r z=>by subst z;rw[r]at mu;exact mu
 have ntup:∀ c xs,H c=some (.tup xs)->c≠x:=λc xs r z=>by subst z;rw[r]at mu;exact mu
 by_cases hb:b=x
 .subst hb;rw[aj]at q;cases q;exact new
 .rw[af hb]at q
  by_cases hbe:b=e
  .have q':H b=some (.own x):=by
    rcases he with z|z
    .exact absurd (hbe.trans z) hb
    .rw[hbe];exact z
   rw[q]at q';cases q';obtain⟨v,hv⟩:=heo;exact⟨v,by rw[hbe];exact hv⟩
  .refine(ok b u q).c9 (λc v hc r=>k c v ?_ r) (λc r=>by rw[af (nown c b r)];exact r) λc xs r=>by rw[af (ntup c xs r)];exact r
   rcases hc with rfl|hc
   .exact hbe
   .rintro rfl;rcases he with z|z
    .exact nown c b hc z
    .rw[hc]at z;cases z;exact hb rfl
end
structure Un (fs ex:List Addr) (H H':Hp) (h h':Heap):Prop where
 keep:∀ b o,h.get? b=some o->H b=none->b ∉ fs->b ∉ ex->h'.get? b=some o
 slot:∀ b o,h.get? b=some o->H b=none->b ∈ fs->b ∉ ex->∃ sl,h'.get? b=some { o with slots:=sl }
 free:∀ b o,h.get? b=some o->H b=none->b ∉ ex->H' b=none
 there:∀ b o,h.get? b=some o->b ∉ ex->∃ o',h'.get? b=some o'
 tups:∀ b xs,H b=some (.tup xs)->H' b=some (.tup xs)
 frzs:∀ b u,Fix u->H b=some u->H' b=some u
 tbls:∀ b ps,H b=some (.tbl ps)->∃ more,H' b=some (.tbl (ps++more))
section
variable {fs fs' ex ex':List Addr}{H H1 H2:Hp}{h h1 h2 h':Heap}{a x e:Addr}{o:HO}
def Un.any (u:Un fs ex H H1 h h1){ob:Obj}(q:h.get? b=some ob)(n:H b=none)(hx:b ∉ ex):∃ sl,h1.get? b=some { ob with slots:=sl }:=by
 by_cases hb:b ∈ fs
 .exact u.slot b ob q n hb hx
 .exact⟨ob.slots,u.keep b ob q n hb hx⟩
def Un.kept (k:∀ b u,h.get? b=some u->h'.get? b=some u):Un fs ex H H h h':=
 ⟨λb ob q _ _ _=>k b ob q,λb ob q _ _ _=>⟨ob.slots,k b ob q⟩,λ_ _ _ n _=>n,λb ob q _=>⟨ob,k b ob q⟩,λ_ _ q=>q,λ_ _ _ q=>q,λ_ ps q=>⟨#[],by rw[q];simp⟩⟩
def Un.refl:Un fs ex H H h h:=Un.kept λ_ _ q=>q
def Un.laid (k:∀ b u,h.get? b=some u->h'.get? b=some u) (hp:h.objs.size<=a) (hn:H a=none):Un fs ex H (upd H a o) h h' where
 keep:=λb u q _ _ _=>k b u q
 slot:=λb u q _ _ _=>⟨u.slots,k b u q⟩
 free:=λb u q n _=>by rw[af (pc (nb (tz q) hp))];exact n
 there:=λb u q _=>⟨u,k b u q⟩
 tups:=λb xs q=>by rw[af (aA q hn)];exact q
 frzs:=λb u xs q=>by rw[af (aA q hn)];exact q
 tbls:=λb ps q=>⟨#[],by rw[af (aA q hn),q];simp⟩
def Un.write (mu:B7 (H x))(he:e=x\/H e=some (.own x))(k:∀ b u,b≠e->h.get? b=some u->h'.get? b=some u) (heo:∃ u,h'.get? e=some u):Un fs ex H (upd H x o) h h':=by
 have hx:∀ b,H b=none->b≠x:=λb n z=>by subst z;rw[n]at mu;exact mu
 have hb:∀ b,H b=none->b≠e:=λb n z=>by
  subst z;rcases he with r|r
  .exact hx b n r
  .rw[n]at r;cases r
 have hm:∀ b u,H b=some u->¬ B7 (some u)->b≠x:=λb u q nm z=>by subst z;rw[q]at mu;exact nm mu
 refine⟨λb u q n _ _=>k b u (hb b n) q,λb u q n _ _=>⟨u.slots,k b u (hb b n) q⟩,λb u q n _=>by rw[af (hx b n)];exact n,λb u q _=>?_,
  λb xs q=>by rw[af (hm b _ q λz=>z)];exact q,λb u xs q=>by rw[af (hm b _ q xs.Gv)];exact q,λb ps q=>⟨#[],by rw[af (hm b _ q λz=>z),q];simp⟩⟩
 by_cases hbe:b=e
 .subst hbe;exact heo
 .exact⟨u,k b u hbe q⟩
end
abbrev zv (h:Heap)(H:Hp):List Addr:=(List.range h.objs.size).filter λa=>(H a).isSome
abbrev j6 (h:Heap)(H:Hp):Heap:=W.hideAll h (zv h H)
def rA (h:Heap)(H:Hp):(j6 h H).objs.size=h.objs.size:=W.hideAll_size _ _
def uT {o:Obj}(e:h.get? b=some o)(n:H b=none):(j6 h H).get? b=some o:=
 W.hideAll_get _ e λhm=>by
  have q:(H b).isSome=true:=(List.mem_filter.mp hm).2;rw[n]at q;simp at q
def xf {o:Obj}(e:(j6 h H).get? b=some o):h.get? b=some o/\H b=none:=by
 have e':h.get? b=some o:=W.of_hideAll (zv h H) e;refine⟨e',?_⟩;cases q:H b with
 |none=>rfl
 |some x=>
  have hm:b ∈ zv h H:=List.mem_filter.mpr ⟨mem_range.mpr (tz e'),by simp[q]⟩;have z:(j6 h H).get? b=none:=W.hideAll_none (zv h H) hm;rw[z]at e;cases e
structure Mod (K:W.Frag) (mg:GF) (base:Heap):Prop where
 kin:K.In base
 glob:base.Ns mainGlobals mg
 blt:∃ mb,base.Ns builtinsNs mb/\∀ x:Str,x≠"__name__"->mb x=bootBuiltins x
 nolimit:base.NoLimit
/-- the context:a def's body (or a comprehension's block) running. base:fixed through the whole law;s₀,H₀:the entry;outer:the frames whose slots others may change (a def's callers);stack:all frames that run;
  ex:iterators that were made ahead of the entry and are walked here (a comprehension's);fn:the names whose cells were made at the entry (a def:all;a comprehension's block:its own);calm:not within an except aF;pn:Y that every state bears;xe:what is wanted of an exception that leaves the code -/
structure Cx where
 prog:Program
 w:World
 K:W.Frag
 mg:Str->Option Value
 base:Heap
 A:Around
 N:List Str
 s₀:Shared
 H₀:Hp
 env:Env
 outer:List Env
 stack:List Env
 ex:List Addr
 fn:Str->Bool
 calm:Bool
 pn:List (Addr×Obj)
 xe:Value->Shared->Prop
abbrev ky (l:List Env):List Addr:=l.filterMap (·.frame)
noncomputable abbrev Cx.fs (X:Cx):List Addr:=ky X.outer
abbrev D9 (sc:Scope)(x:Str):Prop:=sc.names.lookup x=some .local\/sc.names.lookup x=some .cell\/sc.names.lookup x=some .free
abbrev Loc (sc:Scope)(x:Str):Prop:=sc.names.lookup x=some .local\/sc.names.lookup x=some .cell
abbrev Look (env:Env)(h:Heap)(m:GF)(x:Str)(u:Value):Prop:=
 (env.kindOf x=some .local/\m x=some u)\/((env.kindOf x=some .cell\/env.kindOf x=some .free)/\∃ c,env.cells.lookup x=some c/\h.IsCell c (some u))
structure Cx.Ok (X:Cx):Prop where
 mod:Mod X.K X.mg X.base
 kind:X.env.scope.kind=.function
 glob:X.env.globals=mainGlobals
 blt:X.env.builtins=builtinsNs
 above:X.s₀.heap.objs.size<=X.env.locals
 inj:∀ x y c,X.env.cells.lookup x=some c->X.env.cells.lookup y=some c->x=y
 has:∀ x,(X.env.kindOf x=some .cell\/X.env.kindOf x=some .free)->∃ c,X.env.cells.lookup x=some c
 cab:∀ x c,X.fn x=true->X.env.cells.lookup x=some c->X.s₀.heap.objs.size<=c
 hd:X.calm=true->X.A.handled=none
 frames:X.A.frames=some X.stack
 stk:X.stack=X.outer\/(X.stack=X.env::X.outer/\X.env.frame=some X.env.locals)
 exf:∀ b ∈ X.ex,b≠X.env.locals/\∀ x c,X.env.cells.lookup x=some c->c≠b
 bs:∀ b o,X.base.get? b=some o->X.s₀.heap.get? b=some o/\X.H₀ b=none
 bsz:X.base.objs.size<=X.s₀.heap.objs.size
 noex:∀ b o,X.base.get? b=some o->b ∉ X.ex
 exfs:∀ b ∈ X.ex,b ∉ X.fs
 gi:X.s₀.heap.FunFrames X.base X.outer
 frf:∀ b ∈ X.fs,X.H₀ b=none
structure Inv (X:Cx) (Y:GD) (U:List (Option V)) (H:Hp) (s:Shared):Prop where
 ok:X.Ok
 os:s.os=X.s₀.os
 bare:AllBare s.gens
 base:Un X.fs X.ex X.H₀ H X.s₀.heap s.heap
 loc:∃ m,s.heap.Ns X.env.locals m/\∀ (i:Nat) (x:Str) (v:V),X.N[i]? =some x->U[i]? =some (some v)->D9 X.env.scope x->∃ u,RelV v u/\Look X.env s.heap m x u
 cell:∀ x c,X.env.cells.lookup x=some c->∃ v,s.heap.IsCell c v
 free:H X.env.locals=none
 freeC:∀ x c,X.env.cells.lookup x=some c->H c=none
 pin:∀ p ∈ X.pn++Y,s.heap.get? p.1=some p.2/\H p.1=none/\p.1≠X.env.locals/\p.1 ∉ X.fs/\∀ v,p.2.data≠.cell v
 hok:eD X.prog X.w H s.heap
 len:U.length=X.N.length
variable {x:Str}{g':Array GenState}{ch:List Addr}{i:Nat}{M:Model}{A:Around}{E:GC}{v:V}
section
variable {X:Cx}{Y:GD}{U:List (Option V)}{H H':Hp}{s:Shared}{h':Heap}
def Cx.Ok.Eu (ok:X.Ok){o:Obj}(e:X.base.get? b=some o):b ∉ X.fs:=λhb=>by
 have:=(ok.gi.mem hb).1;rw[e]at this;cases this
def Inv.bs (I:Inv X Y U H s):∀ b o,X.base.get? b=some o->s.heap.get? b=some o/\H b=none:=λb o e=>
 ⟨I.base.keep b o (I.ok.bs b o e).1 (I.ok.bs b o e).2 (I.ok.Eu e) (I.ok.noex b o e),I.base.free b o (I.ok.bs b o e).1 (I.ok.bs b o e).2 (I.ok.noex b o e)⟩
def Inv.bk (I:Inv X Y U H s):∀ b o,X.base.get? b=some o->s.heap.get? b=some o:=λb o e=>(I.bs b o e).1
def Inv.mod (I:Inv X Y U H s):Mod X.K X.mg X.base:=I.ok.mod
def Inv.bg (I:Inv X Y U H s):X.K.In s.heap:=I.ok.mod.kin.keeps I.bk
def Inv.lt (I:Inv X Y U H s):X.env.locals<s.heap.objs.size:=let⟨_,hn,_⟩:=I.loc;hn.lt
def Inv.sz (I:Inv X Y U H s):X.s₀.heap.objs.size<=s.heap.objs.size:=Nat.le_trans I.ok.above (Nat.le_of_lt I.lt)
def Inv.EJ (I:Inv X Y U H s)(h:s.heap.objs.size<=a):a ∉ X.fs:=λhb=>by
 obtain⟨_,o,ho,_⟩:=I.ok.gi.mem hb;exact absurd (nb (tz ho) (Nat.le_trans I.sz h)) (Nat.lt_irrefl _)
def Inv.uu (I:Inv X Y U H s):∀ x c,X.env.cells.lookup x=some c->c≠X.env.locals:=λx c e z=>by
 obtain⟨v,o,ho,hd⟩:=I.cell x c e;obtain⟨m,⟨o',es,ep,ho',hd',_⟩,_⟩:=I.loc;rw[z,ho']at ho;cases ho;rw[hd']at hd;cases hd
def Inv.gi (I:Inv X Y U H s):s.heap.FunFrames X.base X.outer:=by
 have all:∀ (l:List Env),(∀ b ∈ ky l,b ∈ X.fs)->X.s₀.heap.FunFrames X.base l->s.heap.FunFrames X.base l:=by
  intro l
  induction l with
  |nil=>intro _ _;trivial
  |cons env r ih=>
   intro hs hl;obtain⟨hk,⟨L,o,hf,hn,ho,hd⟩,hr⟩:=hl;have hL:L ∈ X.fs:=hs L (by unfold ky;rw[filterMap_cons,hf];exact li);obtain⟨sl,e⟩:=I.base.slot L o ho (I.ok.frf L hL) hL λz=>I.ok.exfs L z hL
   exact⟨hk,⟨L,_,hf,hn,e,hd⟩,ih (λb hb=>hs b (by unfold ky;rw[filterMap_cons,hf];exact dl _ hb)) hr⟩
 exact all X.outer (λ_ hb=>hb) I.ok.gi
def Inv.stack (I:Inv X Y U H s):s.heap.FunFrames X.base X.stack:=by
 rcases I.ok.stk with e|⟨e,hf⟩
 .rw[e];exact I.gi
 .rw[e];obtain⟨m,hn,_⟩:=I.loc;refine .cons (by rw[I.ok.kind];decide) hf hn ?_ I.gi;exact Heap.get?_none_of_le (Nat.le_trans I.ok.bsz I.ok.above)
def Inv.fW (I:Inv X Y U H s):∀ b ∈ ky X.stack,b ∈ X.env.locals::X.fs:=λb hb=>by
 rcases I.ok.stk with e|⟨e,hf⟩
 .rw[e]at hb;exact dl _ hb
 .rw[e]at hb;unfold ky at hb;rw[filterMap_cons,hf]at hb;exact hb
def Inv.jX (I:Inv X Y U H s):∀ b ∈ ky X.stack,H b=none:=λb hb=>by
 rcases lv.mp (I.fW b hb) with e|hb
 .rw[e];exact I.free
 .obtain⟨_,o,ho,_⟩:=I.ok.gi.mem hb;exact I.base.free b o ho (I.ok.frf b hb) λz=>I.ok.exfs b z hb
def Inv.step {t':Nat}{d':Drawn}(I:Inv X Y U H s)
  (hch:∀ b ∈ ch,(b ∈ X.ex\/X.s₀.heap.objs.size<=b)/\b≠X.env.locals/\(∀ x c,X.env.cells.lookup x=some c->c≠b)/\∀ p ∈ X.pn++Y,p.1≠b)
  (keep:∀ b o,b≠X.env.locals->b ∉ X.fs->b ∉ ch->s.heap.get? b=some o->H b=none->h'.get? b=some o)
  (slot:∀ b o,b≠X.env.locals->b ∈ X.fs->b ∉ ch->s.heap.get? b=some o->H b=none->∃ sl,h'.get? b=some { o with slots:=sl }) (free:∀ b o,b ∉ ch->s.heap.get? b=some o->H b=none->H' b=none)
  (there:∀ b o,b ∉ ch->s.heap.get? b=some o->∃ o',h'.get? b=some o')
  (tups:∀ b xs,H b=some (.tup xs)->H' b=some (.tup xs)) (frzs:∀ b u,Fix u->H b=some u->H' b=some u) (tbls:∀ b ps,H b=some (.tbl ps)->∃ more,H' b=some (.tbl (ps++more)))
  (ns:∀ m,s.heap.Ns X.env.locals m->h'.Ns X.env.locals m) (hok:eD X.prog X.w H' h') (hg:AllBare g'):
  Inv X Y U H' { s with heap:=h',gens:=g',drawn:=d',toks:=t' }:=by
 have neL:∀ b o,X.s₀.heap.get? b=some o->b≠X.env.locals:=λb o e=>pc (nb (tz e) I.ok.above)
 have neC:∀ b o,X.s₀.heap.get? b=some o->b ∉ X.ex->b ∉ ch:=λb o e hx hb=>by
  rcases(hch b hb).1 with z|z
  .exact hx z
  .exact absurd (nb (tz e) z) (Nat.lt_irrefl _)
 have cellK:∀ x c,X.env.cells.lookup x=some c->∀ v,s.heap.IsCell c v->h'.IsCell c v:=λx c e v ⟨o,ho,hd⟩=>by
  have nch:c ∉ ch:=λz=>(hch c z).2.2.1 x c e rfl
  by_cases hc:c ∈ X.fs
  .obtain⟨sl,q⟩:=slot c o (I.uu x c e) hc nch ho (I.freeC x c e);exact⟨_,q,hd⟩
  .exact⟨o,keep c o (I.uu x c e) hc nch ho (I.freeC x c e),hd⟩
 refine⟨I.ok,I.os,hg,⟨λb o e n hb hx=>?_,λb o e n hb hx=>?_,λb o e n hx=>?_,λb o e hx=>?_,λb xs e=>tups b xs (I.base.tups b xs e),λb o xs e=>frzs b o xs (I.base.frzs b o xs e),λb ps e=>?_⟩,?_,λx c e=>?_,?_,λx c e=>?_,λp hp=>?_,hok,I.len⟩
 .exact keep b o (neL b o e) hb (neC b o e hx) (I.base.keep b o e n hb hx) (I.base.free b o e n hx)
 .obtain⟨sl,e1⟩:=I.base.slot b o e n hb hx;obtain⟨sl',e2⟩:=slot b _ (neL b o e) hb (neC b o e hx) e1 (I.base.free b o e n hx);exact⟨sl',e2⟩
 .obtain⟨o',e1⟩:=I.base.there b o e hx;exact free b o' (neC b o e hx) e1 (I.base.free b o e n hx)
 .obtain⟨o',e1⟩:=I.base.there b o e hx;exact there b o' (neC b o e hx) e1
 .obtain⟨m1,e1⟩:=I.base.tbls b ps e;obtain⟨m2,e2⟩:=tbls b _ e1;exact⟨m1++m2,by rw[e2,Array.append_assoc]⟩
 .obtain⟨m,hn,hl⟩:=I.loc;refine⟨m,ns m hn,λi x v e1 e2 e3=>?_⟩;obtain⟨u,r,l⟩:=hl i x v e1 e2 e3;refine⟨u,r,?_⟩;rcases l with l|⟨k,c,e,z⟩
  .exact .inl l
  .exact .inr ⟨k,c,e,cellK x c e _ z⟩
 .obtain⟨v,z⟩:=I.cell x c e;exact⟨v,cellK x c e v z⟩
 .obtain⟨m,⟨o,_,_,ho,_⟩,_⟩:=I.loc;exact free _ o (λz=>(hch _ z).2.1 rfl) ho I.free
 .obtain⟨v,o,ho,hd⟩:=I.cell x c e;exact free c o (λz=>(hch c z).2.2.1 x c e rfl) ho (I.freeC x c e)
 .obtain⟨e,n,ne,nf,d⟩:=I.pin p hp;have nch:p.1 ∉ ch:=λz=>(hch p.1 z).2.2.2 p hp rfl
  exact⟨keep p.1 p.2 ne nf nch e n,free p.1 p.2 nch e n,ne,nf,d⟩
def Inv.un {t':Nat}(I:Inv X Y U H s)(u:Un X.fs [] H H' s.heap h')(hok:eD X.prog X.w H' h'):Inv X Y U H' { s with heap:=h',toks:=t' }:=by
 obtain⟨m,⟨o,es,ep,ho,r⟩,_⟩:=id I.loc;obtain⟨sl,hL⟩:=u.any ho I.free (by simp);exact I.step (g':=s.gens) (d':=s.drawn) (ch:=[]) (λ_ z=>nomatch z) (λb o _ hb _ e n=>u.keep b o e n hb (by simp)) (λb o _ hb _ e n=>u.slot b o e n hb (by simp)) (λb o _ e n=>u.free b o e n (by simp)) (λb o _ e=>u.there b o e (by simp)) u.tups u.frzs u.tbls (λm' hm=>by
  obtain⟨o',es',ep',ho',r'⟩:=hm;rw[ho]at ho';cases ho';exact⟨_,es',ep',hL,r'⟩) hok I.bare
def Inv.call {t':Nat}{d':Drawn}(I:Inv X Y U H s)(u:Un (ky X.stack) ch H H' s.heap h')(hok:eD X.prog X.w H' h')(hg:AllBare g')
  (hch:∀ b ∈ ch,(b ∈ X.ex\/X.s₀.heap.objs.size<=b)/\b≠X.env.locals/\(∀ x c,X.env.cells.lookup x=some c->c≠b)/\∀ p ∈ X.pn++Y,p.1≠b):
  Inv X Y U H' { s with heap:=h',gens:=g',drawn:=d',toks:=t' }:=by
 obtain⟨m,⟨o,es,ep,ho,r⟩,_⟩:=id I.loc;obtain⟨sl,hL⟩:=u.any ho I.free λz=>(hch _ z).2.1 rfl
 exact I.step (ch:=ch) hch (λb o hL hb hc e n=>u.keep b o e n (λz=>(lv.mp (I.fW b z)).elim hL hb) hc) (λb o _ _ hc e n=>u.any e n hc) (λb o hc e n=>u.free b o e n hc) (λb o hc e=>u.there b o e hc) u.tups u.frzs u.tbls (λm' hm=>by
  obtain⟨o',es',ep',ho',r'⟩:=hm;rw[ho]at ho';cases ho';exact⟨_,es',ep',hL,r'⟩) hok hg
def Inv.turned {t':Nat}{it:Addr}(I:Inv X Y U H s)(k:∀ b o,b≠it->s.heap.get? b=some o->h'.get? b=some o) (hn:H it=none) (hL:it≠X.env.locals)
  (h1:it ∈ X.ex\/X.s₀.heap.objs.size<=it) (h2:∀ x c,X.env.cells.lookup x=some c->c≠it) (h3:∀ p ∈ X.pn++Y,p.1≠it):Inv X Y U H { s with heap:=h',toks:=t' }:=by
 have nit:∀ b u,H b=some u->b≠it:=λb u e z=>by rw[z,hn]at e;cases e
 refine I.step (g':=s.gens) (d':=s.drawn) (ch:=[it]) (λb hb=>?_) (λb o _ _ hc e _=>k b o (λz=>hc (by simp[z])) e) (λb o _ _ hc e _=>⟨o.slots,k b o (λz=>hc (by simp[z])) e⟩) (λ_ _ _ _ n=>n)
  (λb o hc e=>⟨o,k b o (λz=>hc (by simp[z])) e⟩) (λ_ _ e=>e) (λ_ _ _ e=>e) (λb ps e=>⟨#[],by rw[e];simp⟩) (λm hm=>?_) (λb u e=>?_) I.bare
 .have e:b=it:=by simpa using hb
  subst e;exact⟨h1,hL,h2,h3⟩
 .obtain⟨o,es,ep,ho,r⟩:=hm;exact⟨o,es,ep,k _ o (Ne.symm hL) ho,r⟩
 .refine(I.hok b u e).c9 (λc v hc q=>k c v ?_ q) (λ_ q=>q) λ_ _ q=>q
  rcases hc with z|z
  .rw[z];exact nit b u e
  .exact nit c _ z
def Inv.tok (I:Inv X Y U H s)(t:Nat):Inv X Y U H { s with toks:=t }:=I.un (h':=s.heap) (t':=t) Un.refl I.hok
def Inv.kept {t':Nat}(I:Inv X Y U H s)(k:∀ b u,s.heap.get? b=some u->h'.get? b=some u):Inv X Y U H { s with heap:=h',toks:=t' }:=I.un (Un.kept k) (I.hok.kept k)
def Inv.laid {t':Nat}(I:Inv X Y U H s)(k:∀ b u,s.heap.get? b=some u->h'.get? b=some u) (hp:s.heap.objs.size<=a) (new:ak X.prog X.w (upd H a o) h' a o):
  Inv X Y U (upd H a o) { s with heap:=h',toks:=t' }:=I.un (Un.laid k hp (I.hok.fresh hp)) (I.hok.laid k hp new)
def Inv.write {x e:Addr}{t':Nat}(I:Inv X Y U H s)(mu:B7 (H x))(he:e=x\/H e=some (.own x))(k:∀ b u,b≠e->s.heap.get? b=some u->h'.get? b=some u) (heo:∃ u,h'.get? e=some u)
  (new:ak X.prog X.w (upd H x o) h' x o):Inv X Y U (upd H x o) { s with heap:=h',toks:=t' }:=I.un (Un.write mu he k heo) (I.hok.write mu he k heo new)
def Inv.jW {pins':GD}(I:Inv X Y U H s)(h:∀ p ∈ pins',s.heap.get? p.1=some p.2/\H p.1=none/\p.1≠X.env.locals/\p.1 ∉ X.fs/\∀ v,p.2.data≠.cell v):Inv X pins' U H s:=
 ⟨I.ok,I.os,I.bare,I.base,I.loc,I.cell,I.free,I.freeC,λp hp=>(mem_append.mp hp).elim (λz=>I.pin p (mem_append_left _ z)) (h p),I.hok,I.len⟩
def iO {N:List Str}(hN:N.Nodup){j:Nat}(a:N[i]? =some x)(b:N[j]? =some x):i=j:=by
 obtain⟨h1,e1⟩:=sw.mp a;obtain⟨h2,e2⟩:=sw.mp b;exact(List.getElem_inj hN).mp (e1.trans e2.symm)
variable {Q:GB}
def jC (I:Inv X Y U H s)(hN:X.N.Nodup)(hi:X.N[i]? =some x)(hx:Loc X.env.scope x)(r:RelV v u)
  (h:∀ s',Inv X Y (U.set i (some v)) H s'->(∃ a,Heap.SameBut a s.heap s'.heap/\(a=X.env.locals\/X.env.cells.lookup x=some a))->Q () s') (hf:X.fn x=true\/X.env.scope.names.lookup x=some .local:=by first|exact .inl rfl|exact .inr rfl|assumption):wpAny M A (storeName X.env x u) Q E s:=by
 obtain⟨m,hn,hl⟩:=id I.loc;have hcls:(X.env.scope.kind ==.class||(X.env.scope.kind ==.module&&X.env.locals != X.env.globals))=false:=by rw[I.ok.kind];rfl
 have hiσ:i<U.length:=by rw[I.len];exact(sw.mp hi).1
 have uu:=I.uu;have tracked:∀ {a:Addr}{h':Heap},(∃ o,s.heap.get? a=some o/\H a=none)->Heap.SameBut a s.heap h'->eD X.prog X.w H h':=λ{a h'} ha hs b ob e=>by
  obtain⟨_,_,hfree⟩:=ha;refine(I.hok b ob e).c9 (λc w' hc q=>(hs.2 c ?_).trans q) (λ_ q=>q) λ_ _ q=>q
  rintro rfl;rcases hc with rfl|hc
  .rw[hfree]at e;cases e
  .rw[hfree]at hc;cases hc
 rcases hx with hk|hk
 .refine wpAny_storeName_local hk hn (λh' hn' hs=>?_) hcls;obtain⟨oL,_,_,hoL,_⟩:=id hn;refine h _ ⟨I.ok,I.os,I.bare,⟨λb o e n hb hx=>?_,λb o e n hb hx=>?_,I.base.free,λb o e hx=>?_,I.base.tups,I.base.frzs,I.base.tbls⟩,⟨_,hn',λj y v' e1 e2 e3=>?_⟩,λy c e=>?_,I.free,I.freeC,λp hp=>?_,tracked ⟨oL,hoL,I.free⟩ hs,by simpa using I.len⟩ ⟨_,hs,.inl rfl⟩
  .exact(hs.2 b (pc (nb (tz e) I.ok.above))).trans (I.base.keep b o e n hb hx)
  .obtain⟨sl,e1⟩:=I.base.slot b o e n hb hx;exact⟨sl,(hs.2 b (pc (nb (tz e) I.ok.above))).trans e1⟩
  .obtain⟨o',e1⟩:=I.base.there b o e hx;exact⟨o',(hs.2 b (pc (nb (tz e) I.ok.above))).trans e1⟩
  .by_cases hj:j=i
   .subst hj;rw[hi]at e1;cases e1;rw[getElem?_set_self hiσ]at e2;cases e2;exact⟨u,r,.inl ⟨hk,by simp⟩⟩
   .rw[getElem?_set_ne (Ne.symm hj)]at e2;obtain⟨u',r',q⟩:=hl j y v' e1 e2 e3;refine⟨u',r',?_⟩;rcases q with⟨k,e⟩|⟨k,c,e,z⟩
    .refine .inl ⟨k,?_⟩;have:y≠x:=λe=>hj (iO hN e1 (e▸hi))
     simp[this,e]
    .exact .inr ⟨k,c,e,z.sameBut hs (uu y c e)⟩
  .obtain⟨w',z⟩:=I.cell y c e;exact⟨w',z.sameBut hs (uu y c e)⟩
  .obtain⟨e,n,ne,nf,d⟩:=I.pin p hp;exact⟨(hs.2 p.1 ne).trans e,n,ne,nf,d⟩
 .have hfn:X.fn x=true:=by
   rcases hf with z|z
   .exact z
   .rw[z]at hk;cases hk
  obtain⟨c,hc⟩:=I.ok.has x (.inl hk);obtain⟨w',z⟩:=I.cell x c hc;refine wpAny_storeName_cell I.ok.kind hk hc z (λh' hc' hs=>?_);obtain⟨oc,hoc,hocd⟩:=id z;refine h { s with heap:=h' } ⟨I.ok,I.os,I.bare,⟨λb o e n hb hx=>?_,λb o e n hb hx=>?_,I.base.free,λb o e hx=>?_,I.base.tups,I.base.frzs,I.base.tbls⟩,⟨m,hn.sameBut hs (Ne.symm (uu x c hc)),λj y v' e1 e2 e3=>?_⟩,λy c' e=>?_,I.free,I.freeC,λp hp=>?_,tracked ⟨oc,hoc,I.freeC x c hc⟩ hs,by simpa using I.len⟩ ⟨c,hs,.inr hc⟩
  .exact(hs.2 b (pc (nb (tz e) (I.ok.cab x c hfn hc)))).trans (I.base.keep b o e n hb hx)
  .obtain⟨sl,e1⟩:=I.base.slot b o e n hb hx;exact⟨sl,(hs.2 b (pc (nb (tz e) (I.ok.cab x c hfn hc)))).trans e1⟩
  .obtain⟨o',e1⟩:=I.base.there b o e hx;exact⟨o',(hs.2 b (pc (nb (tz e) (I.ok.cab x c hfn hc)))).trans e1⟩
  .by_cases hj:j=i
   .subst hj;rw[hi]at e1;cases e1;rw[getElem?_set_self hiσ]at e2;cases e2;exact⟨u,r,.inr ⟨.inl hk,c,hc,hc'⟩⟩
   .rw[getElem?_set_ne (Ne.symm hj)]at e2;obtain⟨u',r',q⟩:=hl j y v' e1 e2 e3;refine⟨u',r',?_⟩;rcases q with q|⟨k,c',e,z'⟩
    .exact .inl q
    .refine .inr ⟨k,c',e,z'.sameBut hs ?_⟩;rintro rfl;exact hj (iO hN e1 (I.ok.inj _ _ _ e hc▸hi))
  .by_cases hcc:c'=c
   .subst hcc;exact⟨_,hc'⟩
   .obtain⟨w2,z2⟩:=I.cell y c' e;exact⟨w2,z2.sameBut hs hcc⟩
  .obtain⟨e,n,ne,nf,d⟩:=I.pin p hp;refine⟨(hs.2 p.1 ?_).trans e,n,ne,nf,d⟩;intro q;rw[q,hoc]at e;have q':oc=p.2:=Option.some.inj e;exact d w' (by rw[<-q'];exact hocd)
def fO (I:Inv X Y U H s)(hN:X.N.Nodup)(hi:X.N[i]? =some x)(hx:Loc X.env.scope x)(r:RelV v u)
  (h:∀ s',Inv X Y (U.set i (some v)) H s'->Q () s') (hf:X.fn x=true\/X.env.scope.names.lookup x=some .local:=by first|exact .inl rfl|exact .inr rfl|assumption):wpAny M A (storeName X.env x u) Q E s:=
 jC I hN hi hx r (λs' I' _=>h s' I') hf
def Inv.pG {s':Shared}(I:Inv X Y U H s)(ho:s'.os=s.os)(u:Un (ky X.stack) ch H H' s.heap s'.heap)(hok:eD X.prog X.w H' s'.heap)(hg:AllBare s'.gens)
  (hch:∀ b ∈ ch,(b ∈ X.ex\/X.s₀.heap.objs.size<=b)/\b≠X.env.locals/\(∀ x c,X.env.cells.lookup x=some c->c≠b)/\∀ p ∈ X.pn++Y,p.1≠b):Inv X Y U H' s':=by
 obtain⟨h',g',d',t',o'⟩:=s';have e:o'=s.os:=ho;subst e;exact I.call (g':=g') (t':=t') (d':=d') u hok hg hch
end
@[reducible]def XK:=Addr->Hp->Prop
@[reducible]def St:=List (Option V)
@[reducible]def VK:=V->Hp->Prop
@[reducible]def TE:=St->Hp->VK->Prop
@[reducible]def TT:=St->Hp->(Bool->Hp->Prop)->Prop
@[reducible]def TA:=St->Hp->(List V->Hp->Prop)->Prop
structure Ends where
 nx:St->Hp->Prop
 rt:VK
 bk:St->Hp->Prop:=λ_ _=>False
 ct:St->Hp->Prop:=λ_ _=>False
@[reducible]def TS:=Ends->St->Hp->Prop
abbrev EP (X:Cx)(Y:GD)(U:St)(Q:VK)(u:Value)(s':Shared):Prop:=∃ v H',Inv X Y U H' s'/\RelV v u/\Q v H'
abbrev TP (X:Cx)(Y:GD)(U:St)(Q:Bool->Hp->Prop)(b:Bool)(s':Shared):Prop:=∃ H',Inv X Y U H' s'/\Q b H'
abbrev AP (X:Cx)(Y:GD)(U:St)(Q:List V->Hp->Prop)(us:List Value)(s':Shared):Prop:=∃ vs H',Inv X Y U H' s'/\Vals vs us/\Q vs H'
abbrev SP (X:Cx)(Y:GD)(D:Ends)(f:Flow)(s':Shared):Prop:=
 match f with
 | .next=>∃ σ' H',Inv X Y σ' H' s'/\D.nx σ' H'
 | .brk=>∃ σ' H',Inv X Y σ' H' s'/\D.bk σ' H'
 | .cont=>∃ σ' H',Inv X Y σ' H' s'/\D.ct σ' H'
 | .ret u=>∃ v σ' H',Inv X Y σ' H' s'/\RelV v u/\D.rt v H'
abbrev PE (X:Cx)(e:Expr)(t:TE):Prop:=
 ∀ (Y:GD) (s:Shared) (U:St) (H:Hp) (Q:VK),Inv X Y U H s->t U H Q->wpAny (model X.prog X.w) X.A (eval e X.env) (EP X Y U Q) X.xe s
abbrev PT (X:Cx)(e:Expr)(t:TT):Prop:=
 ∀ (Y:GD) (s:Shared) (U:St) (H:Hp) (Q:Bool->Hp->Prop),Inv X Y U H s->t U H Q->wpAny (model X.prog X.w) X.A (isTrue e X.env (eval e X.env)) (TP X Y U Q) X.xe s
abbrev PW (X:Cx)(e:Expr)(t:TT):Prop:=
 ∀ (whole:Sem Value) (Y:GD) (s:Shared) (U:St) (H:Hp) (Q:Bool->Hp->Prop),Inv X Y U H s->t U H Q->wpAny (model X.prog X.w) X.A (isTrue e X.env whole) (TP X Y U Q) X.xe s
variable {e:Expr}
def PW.pt {X:Cx}{t:TT}(h:PW X e t):PT X e t:=h _
abbrev PA (X:Cx)(es:List Expr)(t:TA):Prop:=
 ∀ (pos:Pos) (Y:GD) (s:Shared) (U:St) (H:Hp) (Q:List V->Hp->Prop),Inv X Y U H s->t U H Q->wpAny (model X.prog X.w) X.A (spliced (backTo pos (bm es X.env))) (AP X Y U Q) X.xe s
abbrev PS (X:Cx)(st:Stmt)(t:TS):Prop:=
 ∀ (Y:GD) (s:Shared) (U:St) (H:Hp) (D:Ends),Inv X Y U H s->t D U H->wpAny (model X.prog X.w) X.A (exec st X.env) (SP X Y D) X.xe s
abbrev zq (X:Cx)(st:List Stmt)(t:TS):Prop:=
 ∀ (Y:GD) (s:Shared) (U:St) (H:Hp) (D:Ends),Inv X Y U H s->t D U H->wpAny (model X.prog X.w) X.A (execs st X.env) (SP X Y D) X.xe s
variable {s:Shared}
def ar {α:Type}{t:Sem α}{Q Q':α->Shared->Prop}(h:wpAny M A t Q E s)(hQ:∀ a s,Q a s->Q' a s):wpAny M A t Q' E s:=wpAny_mono h hQ λ_ _ x=>x
variable {Q:GC}{Y:GD}{U:St}
section
variable {X:Cx}
abbrev Fl (i:Nat):TE:=λU H Q=>∃ v,U[i]? =some (some v)/\Q v H
abbrev tC (v:V):TE:=λ_ H Q=>Q v H
def AA {pos:Pos}(hN:X.N[i]? =some x)(hv:D9 X.env.scope x)(hd:(x ==("__debug__":Str))=false:=by decide) (hcd:(x ==("__classdict__":Str))=false:=by decide):PE X (.Name x pos) (Fl i):=by
 intro Y s U H Q I h;obtain⟨v,e,h⟩:=h;obtain⟨m,hn,hl⟩:=I.loc;obtain⟨u,r,l⟩:=hl i x v hN e hv;have fin:EP X Y U Q u s:=⟨v,H,I,r,h⟩;rcases l with⟨hk,hm⟩|⟨hk,c,hc,hcell⟩
 .exact wpAny_Name (wpAny_loadName_local I.ok.kind hk hn hm fin) hd
 .rcases hk with hk|hk
  .exact wpAny_Name (wpAny_loadName_cell I.ok.kind hk hc hcell fin) hd
  .exact wpAny_Name (wpAny_loadName_free I.ok.kind hk hc hcell fin hcd) hd
def B4 {i j pos}:PE X (.Constant (.int i) j pos) (tC (.int i)):=λ_ _ _ H _ I h=>wpAny_Constant_int ⟨.int i,H,I.tok _,⟨_,rfl⟩,h⟩
def C9 {b j pos}:PE X (.Constant (.bool b) j pos) (tC (.bl b)):=λ_ _ _ H _ I h=>Constant_bool ⟨.bl b,H,I,rfl,h⟩
def A7 {j pos}:PE X (.Constant .none j pos) (tC .non):=λ_ _ _ H _ I h=>Constant_none ⟨.non,H,I,rfl,h⟩
def uU {x j pos}:PE X (.Constant (.str x) j pos) (tC (.str x)):=λ_ _ _ H _ I h=>Calls.Constant_str ⟨.str x,H,I.tok _,⟨_,rfl⟩,h⟩
abbrev Gl (X:Cx)(x:Str):Prop:=X.env.kindOf x=some .globalImplicit
def aV {pos:Pos}(I:Inv X Y U H s)(hg:Gl X x)(hm:X.mg x=some u)(h:Q u s)
  (hd:(x ==("__debug__":Str))=false:=by decide):wpAny (model X.prog X.w) X.A (eval (.Name x pos) X.env) Q E s:=
 Calls.Name_function_global I.ok.kind hg (Calls.loadGlobal_global (by rw[I.ok.glob];exact I.mod.glob.keeps I.bk) hm h) hd
def cO {pos:Pos}(I:Inv X Y U H s)(hg:Gl X x)(hm:X.mg x=none)(hv:bootBuiltins x=some u)(h:Q u s)
  (hn:x≠"__name__":=by decide) (hd:(x ==("__debug__":Str))=false:=by decide):wpAny (model X.prog X.w) X.A (eval (.Name x pos) X.env) Q E s:=by
 obtain⟨mb,h1,h2⟩:=I.mod.blt;exact Calls.Name_function_global I.ok.kind hg (Calls.loadGlobal_builtin (by rw[I.ok.glob];exact I.mod.glob.keeps I.bk) hm (by rw[I.ok.blt];exact h1.keeps I.bk) ((h2 x hn).trans hv) h) hd
def kb {pos:Pos}(hg:Gl X x)(hm:X.mg x=some u)(r:RelV v u)(hd:(x ==("__debug__":Str))=false:=by decide):PE X (.Name x pos) (tC v):=
 λ_ _ _ H _ I h=>aV I hg hm ⟨v,H,I,r,h⟩ hd
def xD {pos:Pos}(hg:Gl X x)(hm:X.mg x=none)(hv:bootBuiltins x=some u)(r:RelV v u)(hn:x≠"__name__":=by decide) (hd:(x ==("__debug__":Str))=false:=by decide):PE X (.Name x pos) (tC v):=
 λ_ _ _ H _ I h=>cO I hg hm hv ⟨v,H,I,r,h⟩ hn hd
variable {a b:Expr}{ta tb:TE}{pos:Pos}
variable {tA tB':TT}{rest:List Expr}
abbrev Es (t u:TT):TT:=λU H Q=>t U H λc H1=>if c=true then u U H1 Q else Q false H1
abbrev Gn (t u:TT):TT:=λU H Q=>t U H λc H1=>if c=true then Q true H1 else u U H1 Q
abbrev EF (t:TT):TT:=λU H Q=>t U H λc H1=>Q (!c) H1
def yz (ha:PT X a tA):PW X (.BoolOp .And [a] pos) tA:=by
 intro wh Y s U H Q I h;refine isTrue_and (ar (ha Y s U H Q I h) λc s1 e=>?_);cases c with
 |true=>exact isTrue_and_nil e
 |false=>exact e
def Aw (ha:PT X a tA):PW X (.BoolOp .Or [a] pos) tA:=by
 intro wh Y s U H Q I h;refine isTrue_or (ar (ha Y s U H Q I h) λc s1 e=>?_);cases c with
 |false=>exact isTrue_or_nil e
 |true=>exact e
def Bw (ha:PT X a tA)(hb:PW X (.BoolOp .And (b::rest) pos) tB'):PW X (.BoolOp .And (a::b::rest) pos) (Es tA tB'):=by
 intro wh Y s U H Q I h;refine isTrue_and (ar (ha Y s U H _ I h) λc s1 ⟨H1,I1,q1⟩=>?_);cases c with
 |true=>exact hb wh Y s1 U H1 Q I1 q1
 |false=>exact⟨H1,I1,q1⟩
def CZ (ha:PT X a tA)(hb:PW X (.BoolOp .Or (b::rest) pos) tB'):PW X (.BoolOp .Or (a::b::rest) pos) (Gn tA tB'):=by
 intro wh Y s U H Q I h;refine isTrue_or (ar (ha Y s U H _ I h) λc s1 ⟨H1,I1,q1⟩=>?_);cases c with
 |true=>exact⟨H1,I1,q1⟩
 |false=>exact hb wh Y s1 U H1 Q I1 q1
def Ai (ha:PT X a tA):PT X (.UnaryOp .Not a pos) (EF tA):=by
 intro Y s U H Q I h;exact isTrue_not (ha Y s U H (λc H1=>Q (!c) H1) I h)
abbrev C6 (ta tb:TE):TE:=λU H Q=>ta U H λx H1=>∃ c,x=.bl c/\if c=true then tb U H1 Q else Q (.bl false) H1
abbrev Fg (ta tb:TE):TE:=λU H Q=>ta U H λx H1=>∃ c,x=.bl c/\if c=true then Q (.bl true) H1 else tb U H1 Q
abbrev Dq (ta:TE):TE:=λU H Q=>ta U H λx H1=>∃ c,x=.bl c/\Q (.bl (!c)) H1
def vk {op}{t:TE}(h:PE X a t):PE X (.BoolOp op [a] pos) t:=λY s U H Q I hw=>BoolOp_one (h Y s U H Q I hw)
def BU (ha:PE X a ta)(hb:PE X (.BoolOp .And (b::rest) pos) tb):PE X (.BoolOp .And (a::b::rest) pos) (C6 ta tb):=by
 intro Y s U H Q I h;refine BoolOp_and (ar (ha Y s U H _ I h) λv s1 ⟨x,H1,I1,r1,q1⟩=>?_);obtain⟨c,rfl,q1⟩:=q1;cases r1;refine bi ?_;cases c with
 |true=>exact hb Y s1 U H1 Q I1 q1
 |false=>exact⟨.bl false,H1,I1,rfl,q1⟩
def DE (ha:PE X a ta)(hb:PE X (.BoolOp .Or (b::rest) pos) tb):PE X (.BoolOp .Or (a::b::rest) pos) (Fg ta tb):=by
 intro Y s U H Q I h;refine BoolOp_or (ar (ha Y s U H _ I h) λv s1 ⟨x,H1,I1,r1,q1⟩=>?_);obtain⟨c,rfl,q1⟩:=q1;cases r1;refine bi ?_;cases c with
 |false=>exact hb Y s1 U H1 Q I1 q1
 |true=>exact⟨.bl true,H1,I1,rfl,q1⟩
def BL (ha:PE X a ta):PE X (.UnaryOp .Not a pos) (Dq ta):=by
 intro Y s U H Q I h;refine UnaryOp_ (ar (ha Y s U H _ I h) λv s1 ⟨x,H1,I1,r1,q1⟩=>?_);obtain⟨c,rfl,q1⟩:=q1;cases r1;exact not_of (bi ⟨.bl (!c),H1,I1,rfl,q1⟩)
abbrev Gk (t:TT)(ta tb:TE):TE:=λU H Q=>t U H λc H1=>if c=true then ta U H1 Q else tb U H1 Q
def sQ {c:Expr}(hc:PT X c tA)(ha:PE X a ta)(hb:PE X b tb):PE X (.IfExp c a b pos) (Gk tA ta tb):=by
 intro Y s U H Q I h;refine wpAny_IfExp (ar (hc Y s U H _ I h) λd s1 ⟨H1,I1,q1⟩=>?_);cases d with
 |true=>exact ha Y s1 U H1 Q I1 q1
 |false=>exact hb Y s1 U H1 Q I1 q1
end
abbrev aN (K:W.Frag)(H:Hp)(a:Addr)(xs:List V):Prop:=
 Rd H a (.lst xs)\/
  ∃ (o:Obj) (its:Array Value) (n:Nat),K.lookup a=some o/\o.cls=.type "list"/\o.dict=none/\o.data=.seq its n/\its.size<=bn/\Vals xs its.toList
abbrev ba (K:W.Frag)(H:Hp)(a:Addr)(xs:List V):Prop:=
 Rd H a (.tup xs)\/
  ∃ (o:Obj) (its:Array Value) (n:Nat),K.lookup a=some o/\o.cls=.type "tuple"/\o.data=.seq its n/\its.size<=bn/\Vals xs its.toList
abbrev Fu:Value->Option V
 | .none=>some .non
 | .bool b=>some (.bl b)
 | .int i _=>some (.int i)
 | .str x _=>some (.str x)
 | .bytes b _=>some (.byt b)
 | .float b _=>some (.flt b)
 | .ref a=>some (.ref a)
 | .type n=>some (.ty n)
 |_=>none
def RelV.abs {x:V}(r:RelV x u):Fu u=some x:=by
 cases x with
 |non=>cases r;rfl
 |bl _=>cases r;rfl
 |int _=>obtain⟨t,rfl⟩:=r;rfl
 |str _=>obtain⟨t,rfl⟩:=r;rfl
 |byt _=>obtain⟨t,rfl⟩:=r;rfl
 |flt _=>obtain⟨t,rfl⟩:=r;rfl
 |ref _=>cases r;rfl
 |ty _=>cases r;rfl
def RelV.inj {x y:V}(r:RelV x u)(q:RelV y u):x=y:=Option.some.inj (r.abs.symm.trans q.abs)
def Vals.inj:∀ {xs ys:List V}{us:List Value},Vals xs us->Vals ys us->xs=ys
 |_,_,_,.nil,.nil=>rfl
 |_,_,_,.cons r t,.cons r' t'=>by rw[r.inj r',Vals.inj t t']
variable {K:W.Frag}
section
variable {X:Cx}{Y:GD}{U:St}{H:Hp}{s:Shared}{a:Addr}{xs ys:List V}
def aN.of (h:H a=some (.lst xs)):aN K H a xs:=.inl (.inl h)
def ba.of (h:H a=some (.tup xs)):ba K H a xs:=.inl (.inl h)
def Inv.list (I:Inv X Y U H s)(h:aN X.K H a xs):∃ its:List Value,Vals xs its/\PlainL s.heap a its.toArray/\xs.length<=bn:=by
 rcases h with h|⟨o,its,n,hk,hc,hd,hs,hz,r⟩
 .obtain⟨z,its,n,r,e⟩:=h.ok I.hok;exact⟨its,r,⟨_,n,e,rfl,rfl,rfl⟩,z⟩
 .refine⟨its.toList,r,⟨o,n,I.bg a o hk,hc,hd,by simpa using hs⟩,?_⟩;have e:=r.length;simp only[Array.length_toList]at e
  omega
def Inv.tuple (I:Inv X Y U H s)(h:ba X.K H a xs):∃ its:List Value,Vals xs its/\IsTup s.heap a its.toArray/\xs.length<=bn:=by
 rcases h with h|⟨o,its,n,hk,hc,hs,hz,r⟩
 .obtain⟨z,its,r,p⟩:=h.ok I.hok;exact⟨its,r,p,z⟩
 .refine⟨its.toList,r,⟨o,I.bg a o hk,hc,n,by simpa using hs⟩,?_⟩;have e:=r.length;simp only[Array.length_toList]at e
  omega
def Inv.ip (I:Inv X Y U H s)(h:aN X.K H a xs)(h':aN X.K H a ys):xs=ys:=by
 obtain⟨its,r,⟨o,n,e,_,_,d⟩,_⟩:=I.list h;obtain⟨its',r',⟨o',n',e',_,_,d'⟩,_⟩:=I.list h';rw[e]at e';cases e';rw[d]at d'
 injection d' with d1 _
 have:its=its':=by simpa using congrArg Array.toList d1
 subst this;exact r.inj r'
def Inv.dQ (I:Inv X Y U H s)(h:ba X.K H a xs)(h':ba X.K H a ys):xs=ys:=by
 obtain⟨its,r,⟨o,e,_,n,d⟩,_⟩:=I.tuple h;obtain⟨its',r',⟨o',e',_,n',d'⟩,_⟩:=I.tuple h';rw[e]at e';cases e';rw[d]at d'
 injection d' with d1 _
 have:its=its':=by simpa using congrArg Array.toList d1
 subst this;exact r.inj r'
end
section
variable {X:Cx}{Y:GD}{U:St}{H:Hp}{s:Shared}{E:GC}
end
section
variable {X:Cx}{st:Stmt}{rest:List Stmt}{t u:TS}{e:Expr}{te:TE}{pos:Pos}
abbrev CF:TS:=λD U H=>D.nx U H
abbrev Fe (t u:TS):TS:=λD U H=>t { D with nx:=u D } U H
def xJ:zq X [] CF:=λ_ _ U H _ I h=>wpAny_execs_nil ⟨U,H,I,h⟩
def uz (h1:PS X st t)(h2:zq X rest u):zq X (st::rest) (Fe t u):=by
 intro Y s U H D I h;refine wpAny_execs_cons (ar (h1 Y s U H { D with nx:=u D } I h) λf s1 q=>?_);cases f with
 |next=>
  obtain⟨σ',H',I',q⟩:=q;exact h2 Y s1 σ' H' D I' q
 |ret v=>exact q
 |brk=>exact q
 |cont=>exact q
def Inv.quiet (I:Inv X Y U H s):interactive X.env=false:=by simp[interactive,I.ok.kind]
abbrev DM (te:TE):TS:=λD U H=>te U H λ_ H1=>D.nx U H1
def wt (he:PE X e te)(hs:swapsWith e none pos.line X.env=pure false:=by rfl):PS X (.Expr e pos) (DM te):=by
 intro Y s U H D I h;exact wpAny_Expr_any (ar (he Y s U H _ I h) λv s1 ⟨x,H1,I1,r1,q1⟩=>⟨U,H1,I1,q1⟩) I.quiet hs
abbrev Fd (te:TE):TS:=λD U H=>te U H D.rt
def BA (he:PE X e te):PS X (.Return (some e) pos) (Fd te):=by
 intro Y s U H D I h;exact wpAny_Return_some (ar (he Y s U H _ I h) λv s1 ⟨x,H1,I1,r1,q1⟩=>⟨x,U,H1,I1,r1,q1⟩)
abbrev EN (c:TT)(t u:TS):TS:=λD U H=>c U H λb H1=>if b=true then t D U H1 else u D U H1
def De {c:Expr}{a b:List Stmt}{tc:TT}(hc:PT X c tc)(ha:zq X a t)(hb:zq X b u):PS X (.If c a b pos) (EN tc t u):=by
 intro Y s U H D I h;refine wpAny_If (ar (hc Y s U H _ I h) λd s1 ⟨H1,I1,q1⟩=>?_);cases d with
 |true=>exact ha Y s1 U H1 D I1 q1
 |false=>exact hb Y s1 U H1 D I1 q1
end
@[reducible]def TG:=V->St->Hp->(St->Hp->Prop)->Prop
@[reducible]def yn:=List V->St->Hp->(St->Hp->Prop)->Prop
abbrev PG (X:Cx)(target:Expr)(t:TG):Prop:=
 ∀ (Y:GD) (s:Shared) (U:St) (H:Hp) (v:V) (u:Value) (Q:St->Hp->Prop),Inv X Y U H s->RelV v u->t v U H Q->
  wpAny (model X.prog X.w) X.A (assign target X.env u) (λ_ s'=>∃ σ' H',Inv X Y σ' H' s'/\Q σ' H') X.xe s
abbrev BG (X:Cx)(ts:List Expr)(t:yn):Prop:=
 ∀ (Y:GD) (s:Shared) (U:St) (H:Hp) (vs:List V) (us:List Value) (Q:St->Hp->Prop),Inv X Y U H s->Vals vs us->t vs U H Q->
  wpAny (model X.prog X.w) X.A (assignInOrder ((assignEach ts X.env).map (·.2)) us) (λ_ s'=>∃ σ' H',Inv X Y σ' H' s'/\Q σ' H') X.xe s
@[reducible]def qK:=V->V->V->Hp->(Hp->Prop)->Prop
abbrev yq (X:Cx)(t:qK):Prop:=
 ∀ (Y:GD) (s:Shared) (U:St) (H:Hp) (o i v:V) (ov iv u:Value) (Q:Hp->Prop),Inv X Y U H s->RelV o ov->RelV i iv->RelV v u->t o i v H Q->
  wpAny (model X.prog X.w) X.A (setItem ov iv u) (λ_ s'=>∃ H',Inv X Y U H' s'/\Q H') X.xe s
@[reducible]def DZ:=V->V->Hp->VK->Prop
abbrev Eb (X:Cx)(op:Operator)(t:DZ):Prop:=
 ∀ (Y:GD) (s:Shared) (U:St) (H:Hp) (x y:V) (v u:Value) (Q:VK),Inv X Y U H s->RelV x v->RelV y u->t x y H Q->
  wpAny (model X.prog X.w) X.A (inplaceOp op v u) (EP X Y U Q) X.xe s
variable {es:List Expr}{k:Nat}{tg:Expr}{te:TE}
section
variable {X:Cx}{pos:Pos}
abbrev fM (i:Nat):TG:=λv U H Q=>Q (U.set i (some v)) H
def ft (hN:X.N.Nodup)(hi:X.N[i]? =some x)(hx:Loc X.env.scope x)(hf:X.fn x=true\/X.env.scope.names.lookup x=some .local:=by first|exact .inl rfl|exact .inr rfl|assumption):PG X (.Name x pos) (fM i):=by
 intro Y s U H v u Q I r h;exact wpAny_assign_Name (fO I hN hi hx r (λs' I'=>⟨_,H,I',h⟩) hf)
abbrev Fc:yn:=λvs U H Q=>vs=[]/\Q U H
abbrev DY (t:TG)(u:yn):yn:=λvs U H Q=>∃ v r,vs=v::r/\t v U H λσ' H'=>u r σ' H' Q
def j7:BG X [] Fc:=by
 intro Y s U H vs us Q I r h;obtain⟨e,h⟩:=h;subst e;cases r;exact assignInOrder_nil ⟨U,H,I,h⟩
def fq {t:TG}{u:yn}(h1:PG X e t)(h2:BG X es u)
  (hs:(assignEach (e::es) X.env).map (·.2)=assign e X.env::(assignEach es X.env).map (·.2):=by rfl):BG X (e::es) (DY t u):=by
 intro Y s U H vs us Q I r h;obtain⟨v,vr,e1,h⟩:=h;subst e1;cases r with
 |cons r rr=>
  rw[hs];refine assignInOrder_cons (ar (h1 Y s U H _ _ _ I r h) λ_ s1 ⟨σ1,H1,I1,q1⟩=>?_);exact h2 Y s1 σ1 H1 _ _ Q I1 rr q1
abbrev wx (K:W.Frag)(n:Nat)(t:yn):TG:=λv U H Q=>∃ a xs,v=.ref a/\ba K H a xs/\xs.length=n/\t xs U H Q
def ke {t:yn}{n:Nat}(hc:X.calm=true)(h:BG X es t)
  (hn:(assignEach es X.env).length=n:=by rfl) (hst:(assignEach es X.env).findIdx? (·.1)=none:=by rfl):PG X (.Tuple es k pos) (wx X.K n t):=by
 intro Y s U H v u Q I r hw;obtain⟨a,xs,e1,hq,hl,hw⟩:=hw;subst e1;cases r;obtain⟨its,rv,ht,hz⟩:=I.tuple hq;refine assign_Tuple_tuple (I.ok.hd hc) ht (by simp[hn,<-hl,rv.length]) hst λh' hx=>?_
 have I1:Inv X Y U H { s with heap:=h' }:=I.kept (t':=s.toks) λb o e=>hx b o (pc (tz e)) e
 exact h Y _ U H xs _ Q I1 (by simpa using rv) hw
abbrev ET (to ti:TE)(t:qK):TG:=λv U H Q=>to U H λo H1=>ti U H1 λi H2=>t o i v H2 λH3=>Q U H3
def Bo {o i:Expr}{to ti:TE}{t:qK}(ho:PE X o to)(hi:PE X i ti)(hs:yq X t)
  (ha:∀ v,assign (.Subscript o i pos) X.env v=(do
   let ov <-holding [v] (eval o X.env)
   let iv <-holding [v,ov] (eval i X.env)
   standAt pos
   holding [v,ov,iv] (setItem ov iv v)
   release [v,ov,iv] []):=by intro _;rfl):PG X (.Subscript o i pos) (ET to ti t):=by
 intro Y s U H v u Q I r h;rw[ha];refine ad (bd (ar (ho Y s U H _ I h) λov s1 ⟨x,H1,I1,r1,q1⟩=>?_));refine ad (bd (ar (hi Y s1 U H1 _ I1 q1) λiv s2 ⟨y,H2,I2,r2,q2⟩=>?_));refine ad (wpAny_standAt (ad (bd (ar (hs Y s2 U H2 x y v ov iv u _ I2 r1 r2 r q2) λ_ s3 ⟨H3,I3,q3⟩=>?_))));exact wpAny_release ⟨U,H3,I3,q3⟩
abbrev DQ (te:TE)(g:TG):TS:=λD U H=>te U H λx H1=>g x U H1 D.nx
def vH {g:TG}(he:PE X e te)(hg:PG X tg g)(hs:swapsWithSole [tg] e pos.line X.env=pure false:=by rfl) (hw:swappedStores [tg] e X.env=pure none:=by rfl)
  (h1:(assignEach [tg] X.env).map (·.2)=[assign tg X.env]:=by rfl):PS X (.Assign [tg] e pos) (DQ te g):=by
 intro Y s U H D I h;refine wpAny_Assign_stores (ar (he Y s U H _ I h) λv s1 ⟨x,H1,I1,r1,q1⟩=>?_) hs hw;rw[h1];exact ar (hg Y s1 U H1 x v _ I1 r1 q1) λ_ s2 q=>q
def tD {pos':Pos}(hN:X.N.Nodup)(hi:X.N[i]? =some x)(hx:Loc X.env.scope x)(he:PE X e te)(hs:swapsWith e (some (.Name x pos')) pos.line X.env=pure false:=by rfl) (hf:X.fn x=true\/X.env.scope.names.lookup x=some .local:=by first|exact .inl rfl|exact .inr rfl|assumption):
  PS X (.Assign [.Name x pos'] e pos) (DQ te (fM i)):=by
 intro Y s U H D I h;refine wpAny_Assign_Name (ar (he Y s U H _ I h) λv s1 ⟨y,H1,I1,r1,q1⟩=>?_) hs;exact fO I1 hN hi hx r1 (λs2 I2=>⟨_,H1,I2,q1⟩) hf
abbrev DU (to ti te:TE)(tget:V->V->Hp->VK->Prop)(tip:DZ)(tset:qK):TS:=λD U H=>to U H λo H1=>ti U H1 λi H2=>tget o i H2 λx H3=>te U H3 λy H4=>tip x y H4 λz H5=>tset o i z H5 λH6=>D.nx U H6
abbrev zR (X:Cx)(t:V->V->Hp->VK->Prop):Prop:=
 ∀ (Y:GD) (s:Shared) (U:St) (H:Hp) (o i:V) (ov iv:Value) (Q:VK),Inv X Y U H s->RelV o ov->RelV i iv->t o i H Q->
  wpAny (model X.prog X.w) X.A (getItem ov iv) (EP X Y U Q) X.xe s
def xR {o i:Expr}{to ti:TE}{tget:V->V->Hp->VK->Prop}{tip:DZ}{tset:qK}{op:Operator}{tpos:Pos}(ho:PE X o to)(hi:PE X i ti)(hg:zR X tget)(he:PE X e te)(hp:Eb X op tip)(hs:yq X tset)
  (ha:∀ ov iv new,augStore i ov iv new=(do holding [new,ov,iv] (setItem ov iv new);release [new,ov,iv] [];pure .next):=by intros;rfl):PS X (.AugAssign (.Subscript o i tpos) op e pos) (DU to ti te tget tip tset):=by
 intro Y s U H D I h;refine wpAny_AugAssign_SubscriptAny (ar (ho Y s U H _ I h) λov s1 ⟨x1,H1,I1,r1,q1⟩=>?_) ha;refine ar (hi Y s1 U H1 _ I1 q1) λiv s2 ⟨x2,H2,I2,r2,q2⟩=>?_
 refine ar (hg Y s2 U H2 x1 x2 ov iv _ I2 r1 r2 q2) λold s3 ⟨x3,H3,I3,r3,q3⟩=>?_
 refine ar (he Y s3 U H3 _ I3 q3) λv s4 ⟨x4,H4,I4,r4,q4⟩=>?_
 refine ar (hp Y s4 U H4 x3 x4 old v _ I4 r3 r4 q4) λnew s5 ⟨x5,H5,I5,r5,q5⟩=>?_
 exact ar (hs Y s5 U H5 x1 x2 x5 ov iv new _ I5 r1 r2 r5 q5) λ_ s6 ⟨H6,I6,q6⟩=>⟨U,H6,I6,q6⟩
abbrev FV (f:Int->Int->Int):DZ:=λx y H Q=>∃ i j,x=.int i/\y=.int j/\Q (.int (f i j)) H
def Ad:Eb X .Add (FV λi j=>i+j):=by
 intro Y s U H x y v u Q I r1 r2 h;obtain⟨i,j,e1,e2,q⟩:=h;subst e1;subst e2;obtain⟨t,rfl⟩:=r1;obtain⟨t',rfl⟩:=r2;exact iadd_int ⟨.int _,H,I.tok _,⟨_,rfl⟩,q⟩
def BM:Eb X .Sub (FV λi j=>i-j):=by
 intro Y s U H x y v u Q I r1 r2 h;obtain⟨i,j,e1,e2,q⟩:=h;subst e1;subst e2;obtain⟨t,rfl⟩:=r1;obtain⟨t',rfl⟩:=r2;exact isub_int ⟨.int _,H,I.tok _,⟨_,rfl⟩,q⟩
end
section
variable {X:Cx}{pos:Pos}
end
structure It where
 go:Nat->Hp->Prop
 yld:Nat->Hp->V->Hp->Prop
 stop:Nat->Hp->Prop
abbrev fE (X:Cx)(Y:GD)(H:Hp)(b:Addr):Prop:=
 H b=none/\b≠X.env.locals/\b ∉ X.fs/\(b ∈ X.ex\/X.s₀.heap.objs.size<=b)/\(∀ x c,X.env.cells.lookup x=some c->c≠b)/\∀ p ∈ X.pn++Y,p.1≠b
def Inv.nQ {X:Cx}{H':Hp}(I:Inv X Y U H s)(hb:s.heap.objs.size<=b)(hn:H' b=none):fE X Y H' b:=by
 refine⟨hn,Nat.ne_of_gt (nb I.lt hb),I.EJ hb,.inr (Nat.le_trans I.sz hb),λx c e z=>?_,λp hp z=>?_⟩
 .obtain⟨v,q⟩:=I.cell x c e;exact absurd (nb q.lt (by rw[z];exact hb)) (Nat.lt_irrefl _)
 .exact absurd (nb (tz (I.pin p hp).1) (by rw[z];exact hb)) (Nat.lt_irrefl _)
noncomputable abbrev Calm (X:Cx):Prop:=X.calm=true
abbrev eh (X:Cx):Prop:=∃ e C dx fs,X.A.handled=some (.ref e)/\X.H₀ e=some (.exc C dx fs false)
structure Turn (P:Program) (w:World) (K:W.Frag) (ok:Cx->Prop) (tg:Expr) (J:It) (fp:List Addr) (it:Addr) (tn:Nat->Heap->Prop):Prop where
 mem:it ∈ fp
 obj:∀ i h,tn i h->∀ b ∈ fp,∃ o,h.get? b=some o/\∀ v,o.data≠.cell v
 keep:∀ i h h',tn i h->(∀ b ∈ fp,∀ o,h.get? b=some o->h'.get? b=some o)->tn i h'
 item:∀ (X:Cx),X.prog=P->X.w=w->X.K=K->ok X->∀ (i:Nat) (Y:GD) (s:Shared) (U:St) (H:Hp) (E:GC),Inv X Y U H s->(∀ b ∈ fp,fE X Y H b)->tn i s.heap->J.go i H->
  wpAny (model P w) X.A (pyNext (.ref it)) (λr s1=>∃ u,r=some u/\
   wpAny (model P w) X.A (letOwnedTupleGo tg (.ref it) u) (λ_ s2=>∃ x H',Inv X Y U H' s2/\RelV x u/\J.yld i H x H'/\tn (i+1) s2.heap/\∀ b ∈ fp,H' b=none) E s1) E s
 done:∀ (X:Cx),X.prog=P->X.w=w->X.K=K->ok X->∀ (i:Nat) (Y:GD) (s:Shared) (U:St) (H:Hp) (E:GC),Inv X Y U H s->(∀ b ∈ fp,fE X Y H b)->tn i s.heap->J.stop i H->
  wpAny (model P w) X.A (pyNext (.ref it)) (λr s1=>r=none/\Inv X Y U H s1) E s
 self:∀ (A:Around) (i:Nat) (s:Shared) (Q:GC) (E:GC),tn i s.heap->Q (.ref it) s->wpAny (model P w) A (pyIter (.ref it)) Q E s
@[reducible]def TI:=St->Hp->(It->Hp->Prop)->Prop
abbrev Bk (ok:Cx->Prop)(X:Cx)(Y:GD)(U:St)(tg:Expr)(R:It->Hp->Prop)(itv:Value)(s2:Shared):Prop:=
 ∃ (it:Addr) (fp:List Addr) (tn:Nat->Heap->Prop) (J:It) (H':Hp),itv=.ref it/\Inv X Y U H' s2/\Turn X.prog X.w X.K ok tg J fp it tn/\tn 0 s2.heap/\(∀ b ∈ fp,fE X Y H' b)/\R J H'
abbrev yV (ok:Cx->Prop)(X:Cx)(tg iter:Expr)(wi:TI):Prop:=
 ∀ (Y:GD) (s:Shared) (U:St) (H:Hp) (R:It->Hp->Prop),Inv X Y U H s->wi U H R->
  wpAny (model X.prog X.w) X.A (eval iter X.env) (λv s1=>wpAny (model X.prog X.w) X.A (pyIter v) (Bk ok X Y U tg R) X.xe s1) X.xe s
noncomputable abbrev Ec (X:Cx)(Y:GD)(U:St)(tg:Expr)(R:It->Hp->Prop)(itv:Value)(s2:Shared):Prop:=Bk Calm X Y U tg R itv s2
noncomputable abbrev PI (X:Cx)(tg iter:Expr)(wi:TI):Prop:=yV Calm X tg iter wi
def mL {it:Addr}{o:Obj}{n:String}{vs:Array Value}{Q:GB}(ho:s.heap.get? it=some o)(hc:o.cls=.type n)(hd:o.data=.fields vs)
  (hn:["enumerate","zip","dict_itemiterator","dict_reverseitemiterator","odict_iterator","itertools.zip_longest","itertools.pairwise"].contains n=false) (hQ:Q () s):wpAny M A (letOwnedTupleGo tg (.ref it) u) Q E s:=by
 unfold letOwnedTupleGo;cases tg<;>first
  |exact am hQ
  |(cases u<;>first
    |exact am hQ
    |(refine ad (wpAny_load ho ?_)
      rw[hc,hd];show wpAny M A (if(["enumerate","zip","dict_itemiterator","dict_reverseitemiterator","odict_iterator","itertools.zip_longest","itertools.pairwise"].contains n&&vs[0]? ==some (rawInt _))=true then _ else _) Q E s;rw[if_neg (by intro h;rw[hn,Bool.false_and]at h;cases h)];exact am hQ))
abbrev Bt (K:W.Frag)(a:Addr):It:=
 ⟨λi H=>∃ xs x,aN K H a xs/\xs[i]? =some x,λi H x H'=>H'=H/\∀ xs,aN K H a xs->xs[i]? =some x,λi H=>∃ xs,aN K H a xs/\xs.length<=i⟩
abbrev sG (K:W.Frag)(a:Addr):It:=
 ⟨λi H=>∃ xs x,ba K H a xs/\xs[i]? =some x,λi H x H'=>H'=H/\∀ xs,ba K H a xs->xs[i]? =some x,λi H=>∃ xs,ba K H a xs/\xs.length<=i⟩
abbrev zH (lo:Int)(n:Nat):It:=⟨λi _=>i<n,λi H x H'=>H'=H/\x=.int (lo+i),λi _=>n<=i⟩
def rD (a it:Addr):Turn P w K Calm tg (Bt K a) [it] it (λi h=>h.IsListIter it a i) where
 mem:=by simp
 obj:=λi h st b hb=>by
  have e:b=it:=by simpa using hb
  subst e;obtain⟨o,e,c,d⟩:=st;exact⟨o,e,λv z=>by rw[d]at z;cases z⟩
 keep:=λi h h' st k=>st.at λo e=>k it (by simp) o e
 item:=by
  intro X hP hw hK hc i Y s U H E I hf st hg;subst hP hw hK;obtain⟨xs,x,hq,hx⟩:=hg;obtain⟨its,rv,p,hz⟩:=I.list hq;obtain⟨u,hu,ru⟩:=rv.get hx;obtain⟨f0,f1,f2,f3,f4,f5⟩:=hf it (by simp);refine wpAny_pyNext_list_item st p.isList (x:=u) (by simpa using hu) λh' st' sb=>?_
  have I1:Inv X Y U H { s with heap:=h' }:=I.turned (t':=s.toks) (λb o hb e=>(sb.2 b hb).trans e) f0 f1 f3 f4 f5;obtain⟨o,e,c,d⟩:=id st';exact⟨u,rfl,mL (s:={ s with heap:=h' }) e c d (by decide) ⟨x,H,I1,ru,⟨rfl,λys hy=>by rw[I.ip hy hq];exact hx⟩,st',λb hb=>(hf b hb).1⟩⟩
 done:=by
  intro X hP hw hK hc i Y s U H E I hf st hg;subst hP hw hK;obtain⟨xs,hq,hx⟩:=hg;obtain⟨its,rv,p,hz⟩:=I.list hq;obtain⟨f0,f1,f2,f3,f4,f5⟩:=hf it (by simp);have hl:=rv.length;exact wpAny_pyNext_list_end (I.ok.hd hc) st p.isList (by simp;omega) λh' eb=>⟨rfl,I.turned (t':=s.toks) (λb o hb e=>eb b o hb e) f0 f1 f3 f4 f5⟩
 self:=λ_ _ _ _ _ st h=>wpAny_pyIter_listiter st h
def bW (a it:Addr):Turn P w K Calm tg (sG K a) [it] it (λi h=>h.IsTupleIter it a i) where
 mem:=by simp
 obj:=λi h st b hb=>by
  have e:b=it:=by simpa using hb
  subst e;obtain⟨o,e,c,d⟩:=st;exact⟨o,e,λv z=>by rw[d]at z;cases z⟩
 keep:=λi h h' st k=>st.at λo e=>k it (by simp) o e
 item:=by
  intro X hP hw hK hc i Y s U H E I hf st hg;subst hP hw hK;obtain⟨xs,x,hq,hx⟩:=hg;obtain⟨its,rv,p,hz⟩:=I.tuple hq;obtain⟨u,hu,ru⟩:=rv.get hx;obtain⟨f0,f1,f2,f3,f4,f5⟩:=hf it (by simp);refine wpAny_pyNext_tuple_item st (show s.heap.IsTuple a its.toArray from p) (x:=u) (by simpa using hu) λh' st' sb=>?_
  have I1:Inv X Y U H { s with heap:=h' }:=I.turned (t':=s.toks) (λb o hb e=>(sb.2 b hb).trans e) f0 f1 f3 f4 f5;obtain⟨o,e,c,d⟩:=id st';exact⟨u,rfl,mL (s:={ s with heap:=h' }) e c d (by decide) ⟨x,H,I1,ru,⟨rfl,λys hy=>by rw[I.dQ hy hq];exact hx⟩,st',λb hb=>(hf b hb).1⟩⟩
 done:=by
  intro X hP hw hK hc i Y s U H E I hf st hg;subst hP hw hK;obtain⟨xs,hq,hx⟩:=hg;obtain⟨its,rv,p,hz⟩:=I.tuple hq;obtain⟨f0,f1,f2,f3,f4,f5⟩:=hf it (by simp);have hl:=rv.length;exact wpAny_pyNext_tuple_end (I.ok.hd hc) st (show s.heap.IsTuple a its.toArray from p) (by simp;omega) λh' eb=>⟨rfl,I.turned (t':=s.toks) (λb o hb e=>eb b o hb e) f0 f1 f3 f4 f5⟩
 self:=λ_ _ _ _ _ st h=>wpAny_pyIter_tupleiter st h
def o9 (it:Addr)(lo:Int)(n:Nat):Turn P w K Calm tg (zH lo n) [it] it (λi h=>IsRangeIter h it (lo+(i:Nat)*1) ((n:Int)-(i:Nat)) 1) where
 mem:=by simp
 obj:=λi h st b hb=>by
  have e:b=it:=by simpa using hb
  subst e;exact⟨_,st,λv z=>by
   have z':Data.fields _=Data.cell v:=z;cases z'⟩
 keep:=λi h h' st k=>k it (by simp) _ st
 item:=by
  intro X hP hw hK hc i Y s U H E I hf st hg;subst hP hw hK;obtain⟨f0,f1,f2,f3,f4,f5⟩:=hf it (by simp);have W:=Walks.range (prog:=X.prog) (w:=X.w) (I.ok.hd hc) it lo 1 n;refine W.item i s _ _ hg st λv h' tk hv st' kk=>?_
  obtain⟨t,rfl⟩:=hv;have I1:Inv X Y U H { s with heap:=h',toks:=tk }:=I.turned (λb o hb e=>kk b o (by simpa using hb) e) f0 f1 f3 f4 f5;refine⟨_,rfl,mL (s:={ s with heap:=h',toks:=tk }) (n:="range_iterator") st' rfl rfl (by decide) ⟨.int (lo+i),H,I1,⟨t,?_⟩,⟨rfl,rfl⟩,st',λb hb=>(hf b hb).1⟩⟩;rw[Int.mul_one]
 done:=by
  intro X hP hw hK hc i Y s U H E I hf st hg;subst hP hw hK;obtain⟨f0,f1,f2,f3,f4,f5⟩:=hf it (by simp);exact wpAny_pyNext_range_end (I.ok.hd hc) st (by have:n<=i:=hg;omega) λh' eb=>⟨rfl,I.turned (t':=s.toks) (λb o hb e=>eb b o hb e) f0 f1 f3 f4 f5⟩
 self:=λ_ _ _ _ _ st h=>wpAny_pyIter_rangeiter st h
variable {pos:Pos}{fp:List Addr}{body:List Stmt}
section
variable {X:Cx}{tg:Expr}
def mq {R:It->Hp->Prop}{lo hi:Int}{t u v:Tok}{tk:Nat}(I:Inv X Y U H s)(h1: -(2 ^ 62)<=lo)(h2:lo<2 ^ 62)(h3: -(2 ^ 62)<=hi)(h4:hi<2 ^ 62)
  (q:R (zH lo (hi-lo).toNat) H):wpAny (model X.prog X.w) X.A (pyIter (.ref s.heap.objs.size)) (Ec X Y U tg R) E { s with heap:=s.heap.push { cls:=.type "range",data:=.fields #[.int lo t,.int hi u,.int 1 v] },toks:=tk }:=by
 refine wpAny_pyIter_range (IsRange.new ..) (small_one h1 h2 h3 h4) ?_;have I1:Inv X Y U H { s with heap:=s.heap.push { cls:=.type "range",data:=.fields #[.int lo t,.int hi u,.int 1 v] },toks:=tk }:=I.kept λb o e=>sK _ e
 refine⟨(s.heap.push { cls:=.type "range",data:=.fields #[.int lo t,.int hi u,.int 1 v] }).objs.size,[(s.heap.push { cls:=.type "range",data:=.fields #[.int lo t,.int hi u,.int 1 v] }).objs.size],_,_,H,rfl,
  I1.kept (t':=tk) λb o e=>sK _ e,o9 _ lo (hi-lo).toNat,?_,λb hb=>?_,q⟩
 .have e1:lo+((0:Nat):Int)*1=lo:=by simp
  have e2:(((hi-lo).toNat:Nat):Int)-((0:Nat):Int)=Builtin.Range.rangeSize lo hi 1:=by rw[rangeSize_one];split<;>omega
  show IsRangeIter _ _ (lo+((0:Nat):Int)*1) ((((hi-lo).toNat:Nat):Int)-((0:Nat):Int)) 1;rw[e1,e2];exact ul _ rfl
 .have e:b=(s.heap.push { cls:=.type "range",data:=.fields #[.int lo t,.int hi u,.int 1 v] }).objs.size:=by simpa using hb
  subst e;exact I1.nQ (pi _) (I1.hok.fresh (pi _))
abbrev DO (ta:TA):TI:=λU H R=>ta U H λvs H1=>∃ j:Int,vs=[.int j]/\ -(2 ^ 62)<=j/\j<2 ^ 62/\R (zH 0 j.toNat) H1
abbrev Cs (ta:TA):TI:=λU H R=>ta U H λvs H1=>∃ i j:Int,vs=[.int i,.int j]/\(-(2 ^ 62)<=i/\i<2 ^ 62/\ -(2 ^ 62)<=j/\j<2 ^ 62)/\R (zH i (j-i).toNat) H1
def qV {a:Expr}{ta:TA}{p:Pos}(hg:Gl X "range") (hm:X.mg "range"=none) (ha:PA X [a] ta) (hs:bm [a] X.env=[(false,eval a X.env)]:=by rfl):PI X tg (.Call (.Name "range" p) [a] [] pos) (DO ta):=by
 intro Y s U H R I h;refine Call_ (cO I hg hm boot_range (PyProof.Rows.callWith_type1 (ar (ha pos Y s U H _ I h) λus s1 ⟨vs,H1,I1,r1,q1⟩=>?_) hs rfl));obtain⟨j,e,q1,q2,q⟩:=q1;subst e;cases r1 with
 |cons r rr=>
  cases rr;obtain⟨t,rfl⟩:=r;exact call_range_1 (mq I1 nofun nofun q1 q2 (by simpa using q))
def sA {a b:Expr}{ta:TA}{p:Pos}(hg:Gl X "range") (hm:X.mg "range"=none) (ha:PA X [a,b] ta) (hs:bm [a,b] X.env=[(false,eval a X.env),(false,eval b X.env)]:=by rfl) (hs2:bm [b] X.env=[(false,eval b X.env)]:=by rfl):
  PI X tg (.Call (.Name "range" p) [a,b] [] pos) (Cs ta):=by
 intro Y s U H R I h;refine Call_ (cO I hg hm boot_range (PyProof.Rows.callWith_type1 (ar (ha pos Y s U H _ I h) λus s1 ⟨vs,H1,I1,r1,q1⟩=>?_) (by rw[hs,hs2]) (by rw[hs2];rfl)));obtain⟨i,j,e,⟨q1,q2,q3,q4⟩,q⟩:=q1;subst e;cases r1 with
 |cons r rr=>
  cases rr with
  |cons r' rr=>
   cases rr;obtain⟨t,rfl⟩:=r;obtain⟨t',rfl⟩:=r';exact call_range_2 (mq I1 q1 q2 q3 q4 q)
abbrev E6 (wi:TI)(g:TG)(tb:TS):TS:=λD U H=>wi U H λJ H1=>∃ W:Nat->Nat->St->Hp->Prop,(∃ m,W 0 m U H1)/\∀ i m U H,W i m U H->
 (J.stop i H/\D.nx U H)\/(J.go i H/\∃ N:St->Hp->Prop,(∀ σ' H',N σ' H'->∃ m',m'<m/\W (i+1) m' σ' H')/\∀ x H',J.yld i H x H'->g x U H' λσ2 H2=>tb { D with nx:=N,ct:=N,bk:=D.nx } σ2 H2)
abbrev kx (fp:List Addr)(h:Heap):List (Addr×Obj):=fp.filterMap λb=>(h.get? b).map λo=>(b,o)
def bq {o:Obj}(hb:b ∈ fp)(e:h.get? b=some o):(b,o) ∈ kx fp h:=List.mem_filterMap.mpr ⟨b,hb,by rw[e];rfl⟩
def rl {p:Addr×Obj}(hp:p ∈ kx fp h):p.1 ∈ fp/\h.get? p.1=some p.2:=by
 obtain⟨b,hb,e⟩:=List.mem_filterMap.mp hp;cases q:h.get? b with
 |none=>rw[q]at e;cases e
 |some o=>
  rw[q]at e;have e':(b,o)=p:=Option.some.inj e;subst e';exact⟨hb,q⟩
def Inv.pinned (I:Inv X Y U H s)(hf:∀ b ∈ fp,fE X Y H b) (ho:∀ b ∈ fp,∃ o,s.heap.get? b=some o/\∀ v,o.data≠.cell v):Inv X (Y++kx fp s.heap) U H s:=
 I.jW λp hp=>(mem_append.mp hp).elim (λz=>I.pin p (ii _ z)) λz=>by
  obtain⟨hb,e⟩:=rl z;obtain⟨f0,f1,f2,_⟩:=hf p.1 hb;obtain⟨o,e',d⟩:=ho p.1 hb;rw[e]at e';cases e';exact⟨e,f0,f1,f2,d⟩
def Inv.dw {pl:GD}(I:Inv X (Y++pl) U H s):Inv X Y U H s:=I.jW λp hp=>I.pin p (ii _ (mem_append_left _ hp))
def AH {iter:Expr}{wi:TI}{g:TG}{tb:TS}(hp:PassesOwn (model X.prog X.w) X.A X.env X.xe)(hc:X.calm=true)(hi:PI X tg iter wi)(hg:PG X tg g)(hb:zq X body tb)
  (hs:∀ x,foldedSetIterable iter X.env x=pure x:=by intro _;rfl):PS X (.For tg iter body [] pos) (E6 wi g tb):=by
 intro Y s U H D I h;refine wpAny_For (ar (hi Y s U H _ I h) λv s1 h1=>ar h1 λitv s2 h2=>?_) hs;obtain⟨it,fp,tn,J,H2,e,I2,T,k8,f2,W,⟨m0,w0⟩,turn⟩:=h2;subst e;have stat:∀ {H':Hp},(∀ b ∈ fp,H' b=none)->∀ b ∈ fp,fE X Y H' b:=λhn b hb=>⟨hn b hb,(f2 b hb).2⟩
 refine codeAny_forLoop_any (λn s'=>∃ i σ' H',Inv X Y σ' H' s'/\tn i s'.heap/\(∀ b ∈ fp,H' b=none)/\W i n σ' H') ?_ m0 ⟨0,U,H2,I2,k8,λb hb=>(f2 b hb).1,w0⟩;rintro n s3 ⟨i,σ3,H3,I3,st3,fr3,w3⟩;rcases turn i n σ3 H3 w3 with⟨stop,qn⟩|⟨go,N,hN,step⟩
 .refine wpAny_passesOwn hp (ar (T.done X rfl rfl rfl hc i Y s3 σ3 H3 X.xe I3 (stat fr3) st3 stop) λr s4 ⟨hr,I4⟩=>?_);subst hr;exact wpAny_execs_nil ⟨σ3,H3,I4,qn⟩
 .refine wpAny_passesOwn hp (ar (T.item X rfl rfl rfl hc i Y s3 σ3 H3 X.xe I3 (stat fr3) st3 go) λr s4 ⟨u,hr,h4⟩=>?_);subst hr;refine wpAny_passesOwn hp (ar h4 λ_ s5 ⟨x,H5,I5,r5,y5,st5,fr5⟩=>?_);have I5':=I5.pinned (stat fr5) (T.obj _ _ st5);refine wpAny_passesOwn hp (ar (hg _ s5 σ3 H5 x u _ I5' r5 (step x H5 y5)) λ_ s6 ⟨σ6,H6,I6,q6⟩=>?_);refine wpAny_passesOwn hp (ar (hb _ s6 σ6 H6 _ I6 q6) λf s7 q7=>?_);have again:∀ {σ7:St}{H7:Hp},Inv X (Y++kx fp s5.heap) σ7 H7 s7->N σ7 H7->∃ m,m<n/\∃ i σ' H',Inv X Y σ' H' s7/\tn i s7.heap/\(∀ b ∈ fp,H' b=none)/\W i m σ' H':=λ{σ7 H7} I7 n7=>by
   obtain⟨m',hm,w7⟩:=hN σ7 H7 n7;refine⟨m',hm,i+1,σ7,H7,I7.dw,T.keep _ _ _ st5 λb hb o e=>(I7.pin (b,o) (ii _ (ii _ (bq hb e)))).1,λb hb=>?_,w7⟩;obtain⟨o,e,d⟩:=T.obj _ _ st5 b hb;exact(I7.pin (b,o) (ii _ (ii _ (bq hb e)))).2.1
  cases f with
  |next=>obtain⟨σ7,H7,I7,n7⟩:=q7;exact again I7 n7
  |cont=>obtain⟨σ7,H7,I7,n7⟩:=q7;exact again I7 n7
  |brk=>obtain⟨σ7,H7,I7,q7⟩:=q7;exact⟨σ7,H7,I7.dw,q7⟩
  |ret v=>obtain⟨x7,σ7,H7,I7,r7,q7⟩:=q7;exact⟨x7,σ7,H7,I7.dw,r7,q7⟩
end
@[reducible]def R2:=V->V->Hp->VK->Prop
abbrev bY (X:Cx)(f:Value->Value->Sem Value)(r:R2):Prop:=
 ∀ (Y:GD) (s:Shared) (U:St) (H:Hp) (x y:V) (v u:Value) (Q:VK),Inv X Y U H s->RelV x v->RelV y u->r x y H Q->
  wpAny (model X.prog X.w) X.A (f v u) (EP X Y U Q) X.xe s
abbrev Eo (X:Cx)(f:Value->Sem Value)(r:V->Hp->VK->Prop):Prop:=
 ∀ (Y:GD) (s:Shared) (U:St) (H:Hp) (x:V) (v:Value) (Q:VK),Inv X Y U H s->RelV x v->r x H Q->
  wpAny (model X.prog X.w) X.A (f v) (EP X Y U Q) X.xe s
abbrev bU (X:Cx)(f:Value)(r:List V->Hp->VK->Prop):Prop:=
 ∀ (Y:GD) (s:Shared) (U:St) (H:Hp) (xs:List V) (us:List Value) (Q:VK),Inv X Y U H s->Vals xs us->r xs H Q->
  wpAny (model X.prog X.w) X.A (call f us) (EP X Y U Q) X.xe s
abbrev Ep (X:Cx)(r:V->Hp->(Bool->Hp->Prop)->Prop):Prop:=
 ∀ (Y:GD) (s:Shared) (U:St) (H:Hp) (x:V) (v:Value) (Q:Bool->Hp->Prop),Inv X Y U H s->RelV x v->r x H Q->
  wpAny (model X.prog X.w) X.A (truthy v) (TP X Y U Q) X.xe s
abbrev Ej (r:R2)(ta tb:TE):TE:=λU H Q=>ta U H λx H1=>tb U H1 λy H2=>r x y H2 Q
abbrev F3 (r:V->Hp->VK->Prop)(ta:TE):TE:=λU H Q=>ta U H λx H1=>r x H1 Q
abbrev rI (C:Int->Int->Prop)(g:Int->Int->V):R2:=λx y H Q=>∃ i j,x=.int i/\y=.int j/\C i j/\Q (g i j) H
abbrev wQ (g:Int->Int->V):R2:=λx y H Q=>∃ i j,x=.int i/\y=.int j/\Q (g i j) H
abbrev rU (g:Int->V):V->Hp->VK->Prop:=λx H Q=>∃ i,x=.int i/\Q (g i) H
variable {f:Value->Value->Sem Value}{r:R2}{g:Int->Int->Int}
section
variable {X:Cx}{a b c:Expr}{ta tb tc:TE}{pos:Pos}
def zU (ha:PE X a ta)(hb:PE X b tb){R:V->V->Hp->Prop}(I:Inv X Y U H s)
  (h:ta U H λx H1=>tb U H1 λy H2=>R x y H2)
  (hf:∀ v u s2 x y H2,Inv X Y U H2 s2->RelV x v->RelV y u->R x y H2->wpAny (model X.prog X.w) X.A (f v u) Q X.xe s2):
  wpAny (model X.prog X.w) X.A (eval a X.env) (λv s₁=>wpAny (model X.prog X.w) X.A (eval b X.env) (λu s₂=>wpAny (model X.prog X.w) X.A (f v u) Q X.xe s₂) X.xe s₁) X.xe s:=by
 refine ar (ha Y s U H _ I h) λv s1 ⟨x,H1,I1,r1,q1⟩=>?_
 refine ar (hb Y s1 U H1 _ I1 q1) λu s2 ⟨y,H2,I2,r2,q2⟩=>?_
 exact hf v u s2 x y H2 I2 r1 r2 q2
def Co {op:Operator}(ho:bY X (binaryOp op) r)(ha:PE X a ta)(hb:PE X b tb):PE X (.BinOp a op b pos) (Ej r ta tb):=by
 intro Y s U H Q I h;exact wpAny_BinOp (zU ha hb I h λv u s2 x y H2 I2 rx ry q=>ho Y s2 U H2 x y v u Q I2 rx ry q)
def Cz {op:UnaryOp}{r:V->Hp->VK->Prop}(ho:Eo X (unaryOp op) r)(ha:PE X a ta):PE X (.UnaryOp op a pos) (F3 r ta):=by
 intro Y s U H Q I h;exact UnaryOp_ (ar (ha Y s U H _ I h) λv s1 ⟨x,H1,I1,r1,q1⟩=>ho Y s1 U H1 x v Q I1 r1 q1)
def Ea {C:Int->Int->Prop}
  (rule:∀ (i j:Int) (t u:Tok) (s:Shared) (Q:GC) (E:GC),C i j->Q (.int (g i j) s.toks) { s with toks:=s.toks+1 }->wpAny (model X.prog X.w) X.A (f (.int i t) (.int j u)) Q E s):
  bY X f (rI C λi j=>.int (g i j)):=by
 intro Y s U H x y v u Q I rx ry h;obtain⟨i,j,rfl,rfl,hc,q⟩:=h;obtain⟨t,rfl⟩:=rx;obtain⟨t',rfl⟩:=ry;exact rule i j t t' s _ _ hc ⟨.int (g i j),H,I.tok _,⟨_,rfl⟩,q⟩
def Dm 
  (rule:∀ (i j:Int) (t u:Tok) (s:Shared) (Q:GC) (E:GC),Q (.int (g i j) s.toks) { s with toks:=s.toks+1 }->wpAny (model X.prog X.w) X.A (f (.int i t) (.int j u)) Q E s):
  bY X f (wQ λi j=>.int (g i j)):=by
 intro Y s U H x y v u Q I rx ry h;obtain⟨i,j,rfl,rfl,q⟩:=h;obtain⟨t,rfl⟩:=rx;obtain⟨t',rfl⟩:=ry;exact rule i j t t' s _ _ ⟨.int (g i j),H,I.tok _,⟨_,rfl⟩,q⟩
def yA {g:Int->Int->Bool}
  (rule:∀ (i j:Int) (t u:Tok) (s:Shared) (Q:GC) (E:GC),Q (.bool (g i j)) s->wpAny (model X.prog X.w) X.A (f (.int i t) (.int j u)) Q E s):
  bY X f (wQ λi j=>.bl (g i j)):=by
 intro Y s U H x y v u Q I rx ry h;obtain⟨i,j,rfl,rfl,q⟩:=h;obtain⟨t,rfl⟩:=rx;obtain⟨t',rfl⟩:=ry;exact rule i j t t' s _ _ ⟨.bl (g i j),H,I,rfl,q⟩
abbrev EB (i j:Int):Prop:=0<j/\j<1073741824
abbrev wz (i j:Int):Prop:=0<=j/\j<=1000000/\i.natAbs<2 ^ 64
abbrev qR (i j:Int):Prop:=(-(2 ^ 64)<i/\i<2 ^ 64)\/(-(2 ^ 64)<j/\j<2 ^ 64)
def qR.ok {i j:Int}(h:qR i j):IntMulOk i j:=by
 rcases h with⟨h1,h2⟩|⟨h1,h2⟩
 .exact .of_left (intBits_le_64 h1 h2)
 .exact .of_right (intBits_le_64 h1 h2)
def Aa:bY X (binaryOp .Add) (wQ λi j=>.int (i+j)):=Dm λ_ _ _ _ _ _ _ q=>add_int q
def Bl:bY X (binaryOp .Sub) (wQ λi j=>.int (i-j)):=Dm λ_ _ _ _ _ _ _ q=>sub_int q
def Bd:bY X (binaryOp .Mult) (rI qR λi j=>.int (i*j)):=Ea λ_ _ _ _ _ _ _ hc q=>mul_int q hc.ok
def yJ:bY X (binaryOp .FloorDiv) (rI EB λi j=>.int (i / j)):=Ea λi j _ _ _ _ _ hc q=>by
 have h1:(0:Int)<j:=hc.1;have h2:j<1073741824:=hc.2;exact floordiv_int nofun (by rw[Int.fdiv_eq_ediv_of_nonneg i nofun];exact q) (.inl (PyProof.noPylong_small nofun))
def BI:bY X (binaryOp .Mod) (rI (λ_ j=>0<j) λi j=>.int (i % j)):=Ea λi j _ _ _ _ _ hc q=>by
 have h1:(0:Int)<j:=hc;exact mod_int' nofun (by rw[Int.fmod_eq_emod_of_nonneg i nofun];exact q)
def Bq:bY X (binaryOp .Pow) (rI wz λi j=>.int (i ^ j.toNat)):=Ea λ_ _ _ _ _ _ _ hc q=>pow_int_small hc.1 hc.2.1 hc.2.2 q
def Gp {f:Value->Sem Value}{g:Int->Int}
  (rule:∀ (i:Int) (t:Tok) (s:Shared) (Q:GC) (E:GC),Q (.int (g i) s.toks) { s with toks:=s.toks+1 }->wpAny (model X.prog X.w) X.A (f (.int i t)) Q E s):
  Eo X f (rU λi=>.int (g i)):=by
 intro Y s U H x v Q I rx h;obtain⟨i,rfl,q⟩:=h;obtain⟨t,rfl⟩:=rx;exact rule i t s _ _ ⟨.int (g i),H,I.tok _,⟨_,rfl⟩,q⟩
def Ag:Eo X (unaryOp .USub) (rU λi=>.int (-i)):=Gp λ_ _ _ _ _ q=>neg_int q
end
variable {op:CmpOp}
section
variable {X:Cx}{a b c:Expr}{ta tb tc:TE}{pos:Pos}
def vz {Q:VK}{k k':Bool}(I:Inv X Y U H s)(q:Q (.bl k) H)(e:k=k'):EP X Y U Q (.bool k') s:=by
 subst e;exact⟨.bl k,H,I,rfl,q⟩
def Ci:bY X (compareOp .Lt) (wQ λi j=>.bl (decide (i<j))):=yA λ_ _ _ _ _ _ _ q=>lt_int q
def C2:bY X (compareOp .LtE) (wQ λi j=>.bl (decide (i<=j))):=yA λ_ _ _ _ _ _ _ q=>le_int q
def Dr:bY X (compareOp .Gt) (wQ λi j=>.bl (decide (j<i))):=yA λ_ _ _ _ _ _ _ q=>gt_int q
def CS:bY X (compareOp .GtE) (wQ λi j=>.bl (decide (j<=i))):=yA λ_ _ _ _ _ _ _ q=>ge_int q
def BD:bY X (compareOp .Is) (λx y H Q=>y=.non/\Q (.bl (decide (x=.non))) H):=by
 intro Y s U H x y v u Q I rx ry h;obtain⟨rfl,q⟩:=h;cases ry;refine is_none_gen (vz I q ?_);cases x<;>first
  |(cases rx;rfl)
  |(obtain⟨t,rfl⟩:=rx;rfl)
def wD:bY X (compareOp .IsNot) (λx y H Q=>y=.non/\Q (.bl (!decide (x=.non))) H):=by
 intro Y s U H x y v u Q I rx ry h;obtain⟨rfl,q⟩:=h;cases ry;refine isnot_none_gen (vz I q ?_);cases x<;>first
  |(cases rx;rfl)
  |(obtain⟨t,rfl⟩:=rx;rfl)
def w4 (ho:bY X (compareOp op) r)(ha:PE X a ta)(hb:PE X b tb)(hm:behindInMarks op b=false):PE X (.Compare a [op] [b] pos) (Ej r ta tb):=by
 intro Y s U H Q I h;exact wpAny_Compare1 (zU ha hb I h λv u s2 x y H2 I2 rx ry q=>ho Y s2 U H2 x y v u Q I2 rx ry q) hm
abbrev yT (t:TE):TT:=λU H Q=>t U H λx H'=>∃ k,x=.bl k/\Q k H'
def xE (ho:bY X (compareOp op) r)(ha:PE X a ta)(hb:PE X b tb)(hm:behindInMarks op b=false):PT X (.Compare a [op] [b] pos) (yT (Ej r ta tb)):=by
 intro Y s U H Q I h;refine wpAny_isTrue_Compare1 (ar (ha Y s U H _ I h) λv s1 ⟨x,H1,I1,r1,q1⟩=>ar (hb Y s1 U H1 _ I1 q1) λu s2 ⟨y,H2,I2,r2,q2⟩=>
  ar (ho Y s2 U H2 x y v u _ I2 r1 r2 q2) λc s3 ⟨z,H3,I3,r3,k,e,q3⟩=>?_) hm
 subst e;cases r3;exact bi ⟨H3,I3,q3⟩
abbrev um (r r':R2)(ta tb tc:TE):TE:=λU H Q=>ta U H λx H1=>tb U H1 λy H2=>r x y H2 λz H3=>∃ k,z=.bl k/\
 (if k=true then tc U H3 λw' H4=>r' y w' H4 Q else Q (.bl false) H3)
def sP {op':CmpOp}{r':R2}(ho:bY X (compareOp op) r)(ho':bY X (compareOp op') r')(ha:PE X a ta)(hb:PE X b tb)(hc:PE X c tc)
  (hm:lastMarks [op,op'] [b,c]=false:=by with_unfolding_all rfl):PE X (.Compare a [op,op'] [b,c] pos) (um r r' ta tb tc):=by
 intro Y s U H Q I h;refine Compare_chain (ar (ha Y s U H _ I h) λv s1 ⟨x,H1,I1,r1,q1⟩=>chain_link (ar (hb Y s1 U H1 _ I1 q1) λu s2 ⟨y,H2,I2,r2,q2⟩=>
  ar (ho Y s2 U H2 x y v u _ I2 r1 r2 q2) λd s3 ⟨z,H3,I3,r3,k,e,q3⟩=>?_)) hm
 subst e;cases r3;refine bi ?_;cases k with
 |false=>exact ite_ff ⟨.bl false,H3,I3,rfl,q3⟩
 |true=>exact ite_tt (chain_last (ar (hc Y s3 U H3 _ I3 q3) λw' s4 ⟨z',H4,I4,r4,q4⟩=>ho' Y s4 U H4 y z' u w' Q I4 r2 r4 q4))
def tF {op':CmpOp}{r':R2}(ho:bY X (compareOp op) r)(ho':bY X (compareOp op') r')(ha:PE X a ta)(hb:PE X b tb)(hc:PE X c tc)
  (hm:lastMarks [op,op'] [b,c]=false:=by with_unfolding_all rfl):PT X (.Compare a [op,op'] [b,c] pos) (yT (um r r' ta tb tc)):=by
 intro Y s U H Q I h;refine isTrue_chain (ar (ha Y s U H _ I h) λv s1 ⟨x,H1,I1,r1,q1⟩=>test_link (ar (hb Y s1 U H1 _ I1 q1) λu s2 ⟨y,H2,I2,r2,q2⟩=>
  ar (ho Y s2 U H2 x y v u _ I2 r1 r2 q2) λd s3 ⟨z,H3,I3,r3,k,e,q3⟩=>?_)) hm
 subst e;cases r3;refine bi ?_;cases k with
 |false=>
  obtain⟨k',e',q'⟩:=q3;cases e';exact ite_ff ⟨H3,I3,q'⟩
 |true=>
  refine ite_tt (test_last (ar (hc Y s3 U H3 _ I3 q3) λw' s4 ⟨z',H4,I4,r4,q4⟩=>ar (ho' Y s4 U H4 y z' u w' _ I4 r2 r4 q4) λd' s5 ⟨z2,H5,I5,r5,k2,e2,q5⟩=>?_));subst e2;cases r5;exact bi ⟨H5,I5,q5⟩
abbrev xa (K:W.Frag)(x:V)(H:Hp)(k:Bool):Prop:=
 match x with
 | .non=>k=false
 | .bl b=>k=b
 | .int i=>k=(i != 0)
 | .str y=>y.length<=bn/\k=((y.length:Int) != 0)
 | .byt y=>y.size<=bn/\k=((y.size:Int) != 0)
 | .ref p=>(∃ xs,aN K H p xs/\k= !xs.isEmpty)\/(∃ xs,ba K H p xs/\k= !xs.isEmpty)\/∃ kvs,H p=some (.dK kvs)/\k= !kvs.isEmpty
 |_=>False
def nN {κ:Type}{kvs:List (κ×V)}{vs:List (κ×Value)}(r:KV kvs vs):(!vs.isEmpty)= !kvs.isEmpty:=by
 cases r<;>rfl
def iT {its:List Value}(r:Vals xs its):(!its.toArray.isEmpty)= !xs.isEmpty:=by
 cases r<;>simp
def eK:(bn:Nat)<2 ^ 63:=by rw[sizeLine_eq];decide
def Bb:Ep X (λx H Q=>∃ k,xa X.K x H k/\Q k H):=by
 intro Y s U H x v Q I rx h;obtain⟨k,e,q⟩:=h;have hl:=eK;have hs:bn=16777216:=sizeLine_eq;cases x with
 |non=>
  cases rx;have e':k=false:=e;subst e';exact truthy_none ⟨H,I,q⟩
 |bl b=>
  cases rx;have e':k=b:=e;subst e';exact bi ⟨H,I,q⟩
 |int i=>
  obtain⟨t,rfl⟩:=rx;have e':k=(i != 0):=e;subst e';exact PySem.P.truthy_int ⟨H,I,q⟩
 |str y=>
  obtain⟨t,rfl⟩:=rx;obtain⟨hy,e'⟩:y.length<=bn/\k=((y.length:Int) != 0):=e;subst e';exact PySem.P.truthy_str nofun ⟨H,I.tok _,q⟩
 |byt y=>
  obtain⟨t,rfl⟩:=rx;obtain⟨hy,e'⟩:y.size<=bn/\k=((y.size:Int) != 0):=e;subst e';exact W.truthy_bytes nofun ⟨H,I.tok _,q⟩
 |ref p=>
  cases rx;have e':(∃ xs,aN X.K H p xs/\k= !xs.isEmpty)\/(∃ xs,ba X.K H p xs/\k= !xs.isEmpty)\/∃ kvs,H p=some (.dK kvs)/\k= !kvs.isEmpty:=e;rcases e' with⟨xs,hx,e'⟩|⟨xs,hx,e'⟩|⟨kvs,hx,e'⟩
  .subst e';obtain⟨its,r,pl,hz⟩:=I.list hx;have hlen:=r.length;exact wpAny_truthy_list pl.isList (by simp only[ge];omega) ⟨H,I.tok _,by rw[iT r];exact q⟩
  .subst e';obtain⟨its,r,pl,hz⟩:=I.tuple hx;have hlen:=r.length;exact truthy_tuple pl (by simp only[ge];omega) ⟨H,I.tok _,by rw[iT r];exact q⟩
  .subst e';obtain⟨hz,hS,vs,r,m⟩:kvs.length<=bn/\(p ==sysModules)=false/\∃ vs,KV kvs vs/\s.heap.DictOf (av X.prog X.w) p vs:=I.hok p _ hx;have hlen:kvs.length=vs.length:=Paired.length r;exact wpAny_truthy_dict hS m nofun ⟨H,I.tok _,by rw[nN r];exact q⟩
 |_=>exact(show False from e).elim
def ue (ha:PE X a ta)(he:∀ whole,isTrue a X.env whole=(do let v <-whole;standAt a.pos;holding [v] (truthy v))):
  PT X a (λU H Q=>ta U H λx H'=>∃ k,xa X.K x H' k/\Q k H'):=by
 intro Y s U H Q I h;exact isTrue_plain (ar (ha Y s U H _ I h) λv s1 ⟨x,H1,I1,r1,q1⟩=>Bb Y s1 U H1 x v Q I1 r1 q1) (he _)
def o7:bY X (binaryOp .Add) (λx y H Q=>∃ i j,x=.str i/\y=.str j/\i.length+j.length<=bn/\Q (.str (i++j)) H):=by
 intro Y s U H x y v u Q I rx ry h;obtain⟨i,j,rfl,rfl,hz,q⟩:=h;obtain⟨t,rfl⟩:=rx;obtain⟨t',rfl⟩:=ry;exact add_str (λt' tk=>⟨.str (i++j),H,I.tok _,⟨_,rfl⟩,q⟩) hz
def vals1 {x:V}(r:Vals [x] us):∃ u,us=[u]/\RelV x u:=by
 cases r with
 |cons r1 r2=>cases r2;exact⟨_,rfl,r1⟩
def vals2 {x y:V}(r:Vals [x,y] us):∃ u w',us=[u,w']/\RelV x u/\RelV y w':=by
 cases r with
 |cons r1 r2=>
  cases r2 with
  |cons r3 r4=>cases r4;exact⟨_,_,rfl,r1,r3⟩
def rE (hc:X.calm=true):bU X (.builtin "min") (λxs H Q=>∃ i j,xs=[.int i,.int j]/\Q (.int (if j<i then j else i)) H):=by
 intro Y s U H xs us Q I r h;obtain⟨i,j,rfl,q⟩:=h;obtain⟨u,w',rfl,⟨t,rfl⟩,⟨t',rfl⟩⟩:=vals2 r;refine min_two_ints (I.ok.hd hc) λh' tk k=>⟨_,H,I.kept k,?_,q⟩
 by_cases hj:j<i
 .rw[if_pos hj,if_pos hj];exact⟨_,rfl⟩
 .rw[if_neg hj,if_neg hj];exact⟨_,rfl⟩
def qX:bU X (.type "int") (λxs H Q=>(∃ i,xs=[.int i]/\Q (.int i) H)\/∃ k,xs=[.bl k]/\Q (.int (if k then 1 else 0)) H):=by
 intro Y s U H xs us Q I r h;rcases h with⟨i,rfl,q⟩|⟨k,rfl,q⟩
 .obtain⟨u,rfl,t,rfl⟩:=vals1 r;exact call_int_int ⟨.int i,H,I,⟨_,rfl⟩,q⟩
 .obtain⟨u,rfl,r1⟩:=vals1 r;cases r1;exact call_int_bool ⟨.int (if k then 1 else 0),H,I.tok _,⟨_,rfl⟩,q⟩
def kM:bU X (.type "str") (λxs H Q=>∃ i,xs=[.int i]/\i.natAbs.log2<1920/\Q (.str (toString i)) H):=by
 intro Y s U H xs us Q I r h;obtain⟨i,rfl,hz,q⟩:=h;obtain⟨u,rfl,t,rfl⟩:=vals1 r;exact PySem.P.str_of_int hz ⟨.str _,H,I.tok _,⟨_,rfl⟩,q⟩
abbrev DV (K:W.Frag)(x:V)(H:Hp)(n:Nat):Prop:=
 match x with
 | .str y=>y.length<=bn/\n=y.length
 | .byt y=>y.size<=bn/\n=y.size
 | .ref p=>(∃ xs,aN K H p xs/\n=xs.length)\/∃ xs,ba K H p xs/\n=xs.length
 |_=>False
def vm:bU X (.builtin "len") (λxs H Q=>∃ x n,xs=[x]/\DV X.K x H n/\Q (.int n) H):=by
 intro Y s U H xs us Q I r h;obtain⟨x,n,rfl,e,q⟩:=h;obtain⟨u,rfl,rx⟩:=vals1 r;have hl:=eK;have hs:bn=16777216:=sizeLine_eq;cases x with
 |str y=>
  obtain⟨t,rfl⟩:=rx;obtain⟨hy,e'⟩:y.length<=bn/\n=y.length:=e;subst e';exact len_str nofun ⟨.int _,H,I.tok _,⟨_,rfl⟩,q⟩
 |byt y=>
  obtain⟨t,rfl⟩:=rx;obtain⟨hy,e'⟩:y.size<=bn/\n=y.size:=e;subst e';exact W.len_bytes nofun ⟨.int _,H,I.tok _,⟨_,rfl⟩,q⟩
 |ref p=>
  cases rx;have e':(∃ xs,aN X.K H p xs/\n=xs.length)\/∃ xs,ba X.K H p xs/\n=xs.length:=e;rcases e' with⟨xs,hx,e'⟩|⟨xs,hx,e'⟩
  .subst e';obtain⟨its,r',pl,hz⟩:=I.list hx;have hlen:=r'.length;exact Calls.call_len_list pl.isList (by simp only[ge];omega) ⟨.int xs.length,H,I.tok _,⟨_,by simp only[ge];rw[hlen]⟩,q⟩
  .subst e';obtain⟨its,r',pl,hz⟩:=I.tuple hx;have hlen:=r'.length;exact len_tuple pl (by simp only[ge];omega) ⟨.int xs.length,H,I.tok _,⟨_,by simp only[ge];rw[hlen]⟩,q⟩
 |_=>exact(show False from e).elim
end
structure oh (h:Heap) (x dx C:Addr) (mA:GF):Prop where
 obj:h.get? x=some (W.instObj C dx)
 ns:h.Ns1 dx mA
 ne:dx≠x
variable {mA:GF}
def f9 {dx:Addr}(n:h.Ns1 dx mA):∃ od,h.get? dx=some od/\∀ name,W.lookIn name od=some (mA name):=by
 obtain⟨o,es,ep,ho,hd,hk,_,hm⟩:=n;refine⟨o,ho,λname=>?_⟩;have e:=hm name;unfold nsFind findBy at e;rw[<-Array.find?_toList]at e;unfold W.lookIn;rw[hd];dsimp only
 split
 .rename_i y q;rw[q]at e;exact congrArg some e
 .rename_i q;rw[q]at e;have a:es.toList.any (·.refKey)=false:=by
   rw[any_eq_false];intro y hy;obtain⟨z,t,hkey⟩:=hk y (Array.mem_toList_iff.mp hy);simp[DictEntry.refKey,hkey]
  have a':¬ es.toList.any (·.refKey)=true:=by rw[a];exact Bool.false_ne_true
  rw[if_neg a'];exact congrArg some e
variable {C:Addr}
def oh.look {x dx:Addr}(I:oh h x dx C mA):∃ od,W.InstAt h x (W.instObj C dx) C (some od)/\∀ name,W.lookIn name od=some (mA name):=
 let⟨od,ho,hl⟩:=f9 I.ns
 ⟨od,⟨I.obj,rfl,rfl,ho⟩,hl⟩
variable {pl:Sem Bool}{kw:List (Str×Value)}
section
variable {prog:Program}{w:World}{A:Around}{E:GC}{s:Shared}{K:W.Frag}{x dx C f:Addr}{mA:GF}{name:Str}{v:Value}
def get_map {expr:Bool}(X:K.In s.heap)(I:oh s.heap x dx C mA)(hg:W.plainGet K C name=true)(hh:W.hasDictIn K C=true)
  (ha:W.findIn K (.ref C) name=some none) (hv:mA name=some v) (hv':W.handedIn v=true) (h:Q v { s with toks:=s.toks+1 }):
  wpAny (model prog w) A (getAttr (.ref x) name expr) Q E s:=by
 obtain⟨od,J,hl⟩:=I.look;exact W.get_value X J (W.plainGet_of hg).1 (W.findObj_own hh ha rfl (by rw[hl,hv])) hv' h
def vw {Q:Value×List Value->Shared->Prop}(X:K.In s.heap)(I:oh s.heap x dx C mA)(hg:W.plainGet K C name=true)
  (hf:W.findIn K (.ref C) name=some (some (.ref f))) (ht:W.isFn K (.ref f)=true) (hv:mA name=none) (h:Q (.ref f,[.ref x]) s):
  wpAny (model prog w) A (getMethod (.ref x) name pl) Q E s:=by
 obtain⟨od,J,hl⟩:=I.look;exact W.method_fn X J (W.plainGet_of hg).1 (W.plainGet_of hg).2 hf (beq_iff_eq.mp ht) (by show(W.lookIn name od).map (·.isSome)=some false;rw[hl,hv];rfl) h
def wJ {ns:List Str}{Q:GB}(X:K.In s.heap)(I:oh s.heap x dx C mA)
  (hs:W.findIn K (.ref C) "__setattr__"=some (some (.builtin "object.__setattr__"))) (hp:W.plainOver K C=true) (ht:W.takerIn K C name=some none) (hh:W.hasDictIn K C=true)
  (hw:PySem.Within mA ns) (hsz:ns.length<=bn)
  (h:∀ h',oh h' x dx C (λy=>if y=name then some v else mA y)->Heap.SameBut dx s.heap h'->Q () { s with heap:=h',toks:=s.toks+2 }):
  wpAny (model prog w) A (setAttr (.ref x) name v) Q E s:=by
 obtain⟨od,J,hl⟩:=I.look;refine W.set_plain X J hs (W.osa_open (s:={ s with toks:=s.toks+1 }) (r:=none) X J hp ht λb=>?_);obtain⟨cd,hc,hd'⟩:=W.any_some hh;have hx:s.heap.get? x=some ⟨.ref C,some dx,.plain,#[]⟩:=I.obj;refine ad (am (ad (ad (wpAny_loadPart hx (ad (W.Looks.here (s:={ s with toks:=s.toks+1 }) (W.looks_clsIn X hc) ?_))))));rw[hd'];refine am (a:=some dx) (ad (am (ad ?_)));refine wpAny_nsSet1 (s:={ s with toks:=s.toks+1 }) I.ns λh' hn2 hs2=>?_
 obtain⟨oD,esD,epD,hoD,hdD,hcD⟩:=hn2.count (PySem.Within.cons name v hw);refine ad (wpAny_lookBehind hoD (by rw[hdD];exact pastItsLine_dict (Nat.le_trans hcD (by rw[length_cons];omega))) ?_);exact am (h _ ⟨(hs2.2 _ (Ne.symm I.ne)).trans I.obj,hn2,I.ne⟩ hs2)
def uL {R:Result->Shared->Prop}{vs:List Value}(X:K.In s.heap)(hm:W.makesIn K C=true)
  (hi:W.findIn K (.ref C) "__init__"=some (some (.ref f))) (hf:W.typeIn K (.ref f)=some (.type "function"))
  (h:codeAny (model prog w) (A.under (.builtin "type.__call__" ⟨.ref C::vs,kw⟩)) (.call (.ref f) ⟨.ref (s.heap.objs.size+1)::vs,kw⟩) (W.InitBack (s.heap.objs.size+1) R)
   { s with heap:=(s.heap.push W.emptyDict).push (W.instObj C s.heap.objs.size) }):
  codeAny (model prog w) A (.call (.ref C) ⟨vs,kw⟩) R s:=by
 obtain⟨hh,g,d,t,os⟩:=s;exact W.make_core (W.makes_of X hm) (W.looks_findIn X hi) (λself=>W.bind_fn X self hf) (.inl rfl) h
end
abbrev b6 (f:Str)(v:V):List (Str×V)->List (Str×V)
 | []=>[(f,v)]
 |(g,x)::r=>if g=f then(g,v)::r else(g,x)::b6 f v r
def dG (f g:Str)(v:V):∀ fs:List (Str×V),(b6 f v fs).lookup g=if g=f then some v else fs.lookup g
 | []=>by
  show List.lookup g [(f,v)]=_
  by_cases h:g=f
  .have hb:(g ==f)=true:=beq_iff_eq.mpr h;simp only[List.lookup,hb,if_pos h]
  .have hb:(g ==f)=false:=beq_eq_false_iff_ne.mpr h;simp only[List.lookup,hb,if_neg h]
 |(k,x)::r=>by
  have ih:=dG f g v r;rw[show b6 f v ((k,x)::r)=(if k=f then(k,v)::r else(k,x)::b6 f v r) from rfl]
  by_cases hk:k=f
  .rw[if_pos hk]
   by_cases h:g=k
   .have hb:(g ==k)=true:=beq_iff_eq.mpr h;simp only[List.lookup,hb,if_pos (h.trans hk)]
   .have hb:(g ==k)=false:=beq_eq_false_iff_ne.mpr h;simp only[List.lookup,hb,if_neg (λe:g=f=>h (e.trans hk.symm))]
  .rw[if_neg hk]
   by_cases h:g=k
   .have hb:(g ==k)=true:=beq_iff_eq.mpr h;simp only[List.lookup,hb,if_neg (λe:g=f=>hk (h.symm.trans e))]
   .have hb:(g ==k)=false:=beq_eq_false_iff_ne.mpr h;simp only[List.lookup,hb];exact ih
def cG (f:Str)(v:V):∀ fs:List (Str×V),f ∈ (b6 f v fs).map (·.1)/\∀ g,g ∈ fs.map (·.1)->g ∈ (b6 f v fs).map (·.1)
 | []=>⟨by simp[b6],λg h=>by simp at h⟩
 |(k,x)::r=>by
  obtain⟨i1,i2⟩:=cG f v r;rw[show b6 f v ((k,x)::r)=(if k=f then(k,v)::r else(k,x)::b6 f v r) from rfl]
  by_cases hk:k=f
  .rw[if_pos hk];subst hk;exact⟨by simp,λg h=>by simpa using h⟩
  .rw[if_neg hk];refine⟨?_,λg h=>?_⟩
   .rw[map_cons];exact dl _ i1
   .rw[map_cons]at h⊢;rcases lv.mp h with e|e
    .exact lv.mpr (.inl e)
    .exact dl _ (i2 g e)
def dm (f:Str)(v:V):∀ fs:List (Str×V),(b6 f v fs).length<=fs.length+1
 | []=>by simp[b6]
 |(k,x)::r=>by
  have ih:=dm f v r;rw[show b6 f v ((k,x)::r)=(if k=f then(k,v)::r else(k,x)::b6 f v r) from rfl]
  by_cases hk:k=f
  .rw[if_pos hk,length_cons,length_cons];omega
  .rw[if_neg hk,length_cons,length_cons];omega
def cA.some_of {o:Option Value}(r:cA (some v) o):∃ u,o=some u/\RelV v u:=by
 cases o with
 |none=>exact(show False from r).elim
 |some u=>exact⟨u,rfl,r⟩
def cA.none_of {o:Option Value}(r:cA none o):o=none:=by
 cases o with
 |none=>rfl
 |some u=>exact(show False from r).elim
def jr (r:RelV v u):W.handedIn u=true:=by
 cases v with
 |non=>cases(show u=Value.none from r);rfl
 |bl b=>cases(show u=Value.bool b from r);rfl
 |int i=>obtain⟨t,e⟩:=(show ∃ t,u=Value.int i t from r);cases e;rfl
 |str x=>obtain⟨t,e⟩:=(show ∃ t,u=Value.str x t from r);cases e;rfl
 |byt b=>obtain⟨t,e⟩:=(show ∃ t,u=Value.bytes b t from r);cases e;rfl
 |flt b=>obtain⟨t,e⟩:=(show ∃ t,u=Value.float b t from r);cases e;rfl
 |ref a=>cases(show u=Value.ref a from r);rfl
 |ty n=>cases(show u=Value.type n from r);rfl
section
variable {P:Program}{w:World}{H H':Hp}{h h':Heap}{a C dx:Addr}{fs fs':List (Str×V)}
def dO (hok:eD P w H h)(e:H a=some (.ins C dx fs)):∃ mA,oh h a dx C mA/\(∀ f,cA (fs.lookup f) (mA f))/\PySem.Within mA (fs.map (·.1))/\fs.length<=1000/\H dx=some (.own a):=by
 obtain⟨d,z,ne,ob,mA,n,r,q⟩:=(show ak P w H h a (.ins C dx fs) from hok a _ e);exact⟨mA,⟨ob,n,ne⟩,r,q,z,d⟩
end
structure xj (K:W.Frag) (C:Addr):Prop where
 pg:W.plainGet K C Str.empty=true
 hd:W.hasDictIn K C=true
 po:W.plainOver K C=true
 sa:W.findIn K (.ref C) "__setattr__"=some (some (.builtin "object.__setattr__"))
def xj.get (c:xj K C)(f:Str):W.plainGet K C f=true:=c.pg
abbrev dD (K:W.Frag)(C:Addr)(f:Str):Prop:=W.findIn K (.ref C) f=some none
def dD.DN {f:Str}(n:dD K C f):W.takerIn K C f=some none:=by
 unfold W.takerIn;rw[show W.findIn K (.ref C) f=some none from n]
 rfl
structure Meth (K:W.Frag) (C:Addr) (m:Str) (f:Addr):Prop where
 at_:W.findIn K (.ref C) m=some (some (.ref f))
 fn:W.isFn K (.ref f)=true
 kp:W.keepIn K (.ref f)=true
section
variable {X:Cx}{Y:GD}{U:St}{H:Hp}{s:Shared}{a C dx:Addr}{fs:List (Str×V)}{f:Str}{v:V}{A:Around}{E:GC}
def ow {b:Bool}(I:Inv X Y U H s)(e:H a=some (.ins C dx fs))(c:xj X.K C)(n:dD X.K C f)(l:fs.lookup f=some v)
  (h:∀ u s',Inv X Y U H s'->RelV v u->Q u s'):wpAny (model X.prog X.w) A (getAttr (.ref a) f b) Q E s:=by
 obtain⟨mA,O,r,_,_,_⟩:=dO I.hok e;obtain⟨u,hu,ru⟩:=cA.some_of (v:=v) (o:=mA f) (by rw[<-l];exact r f);exact get_map I.bg O (c.get f) c.hd n hu (jr ru) (h u _ (I.tok _) ru)
def nK {m:Str}{g:Addr}{Q:Value×List Value->Shared->Prop}(I:Inv X Y U H s)(e:H a=some (.ins C dx fs))(c:xj X.K C)(k:Meth X.K C m g)(l:fs.lookup m=none)
  (h:Q (.ref g,[.ref a]) s):wpAny (model X.prog X.w) A (getMethod (.ref a) m pl) Q E s:=by
 obtain⟨mA,O,r,_,_,_⟩:=dO I.hok e;have hn:mA m=none:=cA.none_of (by rw[<-l];exact r m);exact vw I.bg O (c.get m) k.at_ k.fn hn h
def nF {y:V}{Q:GB}(I:Inv X Y U H s)(e:H a=some (.ins C dx fs))(c:xj X.K C)(n:dD X.K C f)(hl:fs.length<1000)(ry:RelV y u)
  (h:∀ s',Inv X Y U (upd H a (.ins C dx (b6 f y fs))) s'->Q () s'):wpAny (model X.prog X.w) A (setAttr (.ref a) f u) Q E s:=by
 obtain⟨mA,O,r,wi,_,ho⟩:=dO I.hok e;have hz:(fs.map (·.1)).length<=bn:=by rw[ce,sizeLine_eq];omega
 refine wJ I.bg O c.sa c.po n.DN c.hd wi hz λh' O' sb=>h _ ?_
 have hd:∃ o,h'.get? dx=some o:=let⟨o,_,_,e',_⟩:=O'.ns;⟨o,e'⟩;refine I.write (x:=a) (e:=dx) (by rw[e];exact True.intro) (.inr ho) (λb q hb z=>(sb.2 b hb).trans z) hd ?_;refine⟨by rw[af O.ne];exact ho,?_,O.ne,O'.obj,_,O'.ns,λg=>?_,λg hg=>?_⟩
 .have:=dm f y fs;omega
 .show cA ((b6 f y fs).lookup g) (if g=f then some u else mA g);rw[dG]
  by_cases q:g=f
  .rw[if_pos q,if_pos q];exact ry
  .rw[if_neg q,if_neg q];exact r g
 .by_cases q:g=f
  .rw[q];exact(cG f y fs).1
  .refine(cG f y fs).2 g (wi g λz=>hg ?_);show(if g=f then some u else mA g)=none;rw[if_neg q];exact z
def Inv.made (I:Inv X Y U H s):Inv X Y U (upd (upd H s.heap.objs.size (.own (s.heap.objs.size+1))) (s.heap.objs.size+1) (.ins C s.heap.objs.size []))
  { s with heap:=(s.heap.push W.emptyDict).push (W.instObj C s.heap.objs.size) }:=by
 have e1:(s.heap.push W.emptyDict).get? s.heap.objs.size=some W.emptyDict:=ul s.heap rfl;have e2:((s.heap.push W.emptyDict).push (W.instObj C s.heap.objs.size)).get? (s.heap.objs.size+1)=some (W.instObj C s.heap.objs.size):=by
  have:=ul (s.heap.push W.emptyDict) (o:=W.instObj C s.heap.objs.size) rfl
  rwa [Heap.size_push]at this
 have e3:(s.heap.push W.emptyDict).Ns s.heap.objs.size (λ_=>none):=⟨W.emptyDict,#[],_,e1,rfl,(λe he=>absurd he (by simp)),λ_=>rfl⟩;have I1:=I.laid (a:=s.heap.objs.size) (o:=.own (s.heap.objs.size+1)) (h':=s.heap.push W.emptyDict) (t':=s.toks) (λb u q=>sK _ q) (pi _) ⟨_,e1⟩;refine I1.laid (a:=s.heap.objs.size+1) (o:=.ins C s.heap.objs.size []) (t':=s.toks) (λb u q=>sK _ q) (Nat.le_of_eq (Heap.size_push _ _)) ?_;have ne:s.heap.objs.size≠s.heap.objs.size+1:=pc (Nat.lt_succ_self _);refine⟨by rw[af ne,aj],Nat.zero_le _,ne,e2,λ_=>none,(Heap.Ns1.of_empty e3).at λo q=>sK _ q,λ_=>True.intro,λy hy=>absurd rfl hy⟩
def yd {prog:Program}{env:Env}(hb:attributeBase e f env (eval e env)=eval e env)
  (h:wpAny (model prog w) A (eval e env) (λo s₁=>wpAny (model prog w) A (getAttr o f true) Q E s₁) E s):wpAny (model prog w) A (eval (.Attribute e f pos) env) Q E s:=
 Attribute_any_ h (by rw[arm_eval_Attribute,hb])
end
section
variable {X:Cx}{o e value:Expr}{f:Str}{pos pos' tpos:Pos}{ta tv:TE}
end
section
variable {X:Cx}{Y:GD}{U:St}{H:Hp}{s:Shared}{A:Around}{E:GC}{Q:GC}{c:Value}{b:Bool}
inductive fw (K:W.Frag) (H:Hp):V->Value->Prop where
 |non:fw K H .non (.type "NoneType")
 |bl (x:Bool):fw K H (.bl x) (.type "bool")
 |int (i:Int):fw K H (.int i) (.type "int")
 |str (x:Str):fw K H (.str x) (.type "str")
 |flt (x:UInt64):fw K H (.flt x) (.type "float")
 |lst {a:Addr}{xs:List V}(e:H a=some (.lst xs)):fw K H (.ref a) (.type "list")
 |fZ {a:Addr}{o:Obj}{xs:List V}(e:H a=some (.fZ o (.lst xs))):fw K H (.ref a) (.type "list")
 |tup {a:Addr}{xs:List V}(e:H a=some (.tup xs)):fw K H (.ref a) (.type "tuple")
 |dK {a:Addr}{kvs:List (Key×V)}(e:Rd H a (.dK kvs)):fw K H (.ref a) (.type "dict")
 |dT {a:Addr}{kvs:List (List Key×V)}(e:H a=some (.dT kvs)):fw K H (.ref a) (.type "dict")
 |ins {a C dx:Addr}{fs:List (Str×V)}(e:H a=some (.ins C dx fs)) (cl:xj K C) (ha:W.findIn K (.ref C) "__class__"=some (some (.builtin "object.__class__")))
   (hn:W.specialIn K (.builtin "object.__class__") "__get__"=some (some (.builtin "getset_descriptor.__get__"))) (htk:W.takesIn K (.builtin "object.__class__")=some true)
   (hm:W.mroIn K C (.type "object")=some true):fw K H (.ref a) (.ref C)
def gg {x:V}{t:Value}(I:Inv X Y U H s)(rx:RelV x u)(ty:fw X.K H x t)(e:W.kitOne X.K t c=some b)(h:∀ tk,Q (.bool b) { s with toks:=tk }):
  wpAny (model X.prog X.w) A (call (.builtin "isinstance") [u,c]) Q E s:=by
 cases ty with
 |non=>cases(show u=Value.none from rx);exact W.kia_one W.kitx_none I.bg True.intro e (λz=>nomatch z) h
 |bl y=>cases(show u=Value.bool y from rx);exact W.kia_one W.kitx_bool I.bg True.intro e (λz=>nomatch z) h
 |int i=>obtain⟨t,q⟩:=(show ∃ t,u=Value.int i t from rx);cases q;exact W.kia_one W.kitx_int I.bg True.intro e (λz=>nomatch z) h
 |str y=>obtain⟨t,q⟩:=(show ∃ t,u=Value.str y t from rx);cases q;exact W.kia_one W.kitx_str I.bg True.intro e (λz=>nomatch z) h
 |flt y=>obtain⟨t,q⟩:=(show ∃ t,u=Value.float y t from rx);cases q;exact W.kia_one W.kitx_float I.bg True.intro e (λz=>nomatch z) h
 | @lst a xs ea=>
  cases(show u=Value.ref a from rx);obtain⟨_,_,n,_,h1⟩:=(show ak X.prog X.w H s.heap a (.lst xs) from I.hok a _ ea);exact W.kia_one W.kitx_list I.bg ⟨_,h1,rfl⟩ e (λz=>nomatch z) h
 | @fZ a ob xs ea=>
  cases(show u=Value.ref a from rx);obtain⟨_,_,_,n,_,h1⟩:=(show ak X.prog X.w H s.heap a (.fZ ob (.lst xs)) from I.hok a _ ea);exact W.kia_one W.kitx_list I.bg ⟨_,h1,rfl⟩ e (λz=>nomatch z) h
 | @tup a xs ea=>
  cases(show u=Value.ref a from rx);obtain⟨_,_,_,p⟩:=(show ak X.prog X.w H s.heap a (.tup xs) from I.hok a _ ea);obtain⟨o,h1,h2,_⟩:=p;exact W.kia_one W.kitx_tuple I.bg ⟨o,h1,h2⟩ e (λz=>nomatch z) h
 | @dK a kvs ea=>
  cases(show u=Value.ref a from rx);obtain⟨_,_,vs,_,p⟩:=(show ak X.prog X.w H s.heap a (.dK kvs) from ea.ok I.hok);obtain⟨o,es,ep,h1,h2,_⟩:=p;exact W.kia_one W.kitx_dict I.bg ⟨o,h1,h2.1⟩ e (λz=>nomatch z) h
 | @dT a kvs ea=>
  cases(show u=Value.ref a from rx);obtain⟨_,_,xs,_,o,es,ep,h1,h2,_⟩:=(show ak X.prog X.w H s.heap a (.dT kvs) from I.hok a _ ea);exact W.kia_one W.kitx_dict I.bg ⟨o,h1,h2.1⟩ e (λz=>nomatch z) h
 | @ins a C dx fs ea cl ha hn htk hm=>
  cases(show u=Value.ref a from rx);obtain⟨mA,O,_⟩:=dO I.hok ea;obtain⟨od,J,_⟩:=O.look;exact W.kia_one (W.kitx_own (cl.get _) cl.hd ha hn htk hm) I.bg J e (λz=>nomatch z) h
end
abbrev sL (c:Bool)(h:Option Value)(H:Hp):Prop:=match c with
 |true=>h=none
 |false=>∃ e C dx fs,h=some (.ref e)/\H e=some (.exc C dx fs false)
structure bb (k:Nat) (A:Around):Prop where
 dp:A.depth+3*k+5<recursionLimit
 un:A.units+16*k+200<cLine
def bb.mono {j:Nat}(r:bb k A)(h:j<=k):bb j A:=⟨by have:=r.dp;omega,by have:=r.un;omega⟩
def bb.deeper (r:bb (k+1) A)(env:Env):bb k (A.deeper env):=
 ⟨by have:=r.dp;show A.depth+1+3*k+5<_;omega,by have:=r.un;show A.units+3+16*k+200<_;omega⟩
def oj:(A.under (.builtin "type.__call__" ⟨.ref C::us,kw⟩)).depth=A.depth+1:=by
 first|rfl|simp[Around.under,Code.weight,Code.isCreation,Code.isGuard,Code.isCaller,Code.frames,Code.isFrame,guardIds]
def nE:(A.under (.builtin "type.__call__" ⟨.ref C::us,kw⟩)).units=A.units+1:=by
 first|rfl|simp[Around.under,Code.cUnits,Code.frames,Code.isFrame]
def bb.make (r:bb (k+1) A)(C:Addr)(us:List Value)(kw:List (Str×Value)):bb k (A.under (.builtin "type.__call__" ⟨.ref C::us,kw⟩)):=
 ⟨by have:=r.dp;rw[oj];omega,by have:=r.un;rw[nE];omega⟩
def bb.depth (r:bb k A):A.depth<recursionLimit:=by have:=r.dp;omega
abbrev wW:TA:=λ_ H Q=>Q [] H
abbrev zI (ta:TE)(tr:TA):TA:=λU H Q=>ta U H λx H1=>tr U H1 λxs H2=>Q (x::xs) H2
section
variable {X:Cx}{e:Expr}{es:List Expr}{te:TE}{t:TA}{pos:Pos}
def c4:PA X [] wW:=λ_ _ _ _ H Q I h=>Calls.spliced_nil ⟨[],H,I,.nil,h⟩
def xB (ha:PE X e te)(hr:PA X es t)(hs:bm (e::es) X.env=(false,eval e X.env)::bm es X.env:=by rfl):PA X (e::es) (zI te t):=by
 intro pos Y s U H Q I h;rw[hs];show wpAny _ _ (spliced ((false,eval e X.env)::backTo pos (bm es X.env))) _ _ s;refine Calls.spliced_cons (ar (ha Y s U H _ I h) λu s1 ⟨x,H1,I1,r1,q1⟩=>?_);exact ar (hr pos Y s1 U H1 _ I1 q1) λus s2 ⟨xs,H2,I2,r2,q2⟩=>⟨x::xs,H2,I2,.cons r1 r2,q2⟩
abbrev Fp (t:TA):TE:=λU H Q=>t U H λxs H1=>xs.length<=bn/\∀ p,H1 p=none->Q (.ref p) (upd H1 p (.tup xs))
abbrev ER (t:TA):TE:=λU H Q=>t U H λxs H1=>xs.length<=bn/\∀ p,H1 p=none->Q (.ref p) (upd H1 p (.lst xs))
def tB {x1} (h:PA X es t):PE X (.Tuple es x1 pos) (Fp t):=by
 intro Y s U H Q I hq;refine wpAny_Tuple_spliced (ar (h pos Y s U H _ I hq) λus s1 ⟨xs,H1,I1,r,z,q⟩=>⟨by rw[<-r.length];exact z,?_⟩);have hf:H1 s1.heap.objs.size=none:=I1.hok.fresh (pi _);refine⟨.ref s1.heap.objs.size,upd H1 s1.heap.objs.size (.tup xs),I1.laid (t':=s1.toks) (λb u e=>sK _ e) (pi _) ?_,rfl,q _ hf⟩;exact⟨z,us,r,⟨_,ul _ rfl,rfl,_,rfl⟩⟩
def Bm (h:PA X es t):PE X (.List es pos) (ER t):=by
 intro Y s U H Q I hq;refine wpAny_List_spliced (ar (h pos Y s U H _ I hq) λus s1 ⟨xs,H1,I1,r,z,q⟩=>⟨by rw[<-r.length];exact z,?_⟩);have hf:H1 s1.heap.objs.size=none:=I1.hok.fresh (pi _);refine⟨.ref s1.heap.objs.size,upd H1 s1.heap.objs.size (.lst xs),I1.laid (t':=s1.toks) (λb u e=>sK _ e) (pi _) ?_,rfl,q _ hf⟩;exact⟨z,us,0,r,ul _ rfl⟩
end
@[reducible]def Sp:=List V->Hp->VK->XK->Prop
@[reducible]def qq:=List Env->Hp->Shared->XK->Value->Shared->Prop
structure nI (P:Program) (w:World) (K:W.Frag) (mg:GF) (base:Heap) (A:Around) (outer:List Env) (s:Shared) (H:Hp):Prop where
 frames:A.frames=some outer
 mod:Mod K mg base
 bs:∀ b o,base.get? b=some o->s.heap.get? b=some o/\H b=none
 bsz:base.objs.size<=s.heap.objs.size
 gi:s.heap.FunFrames base outer
 frf:∀ b ∈ ky outer,H b=none
 hok:eD P w H s.heap
 bare:AllBare s.gens
abbrev CE (outer:List Env)(P:Program)(w:World)(H:Hp)(s:Shared)(Q:VK)(u:Value)(s':Shared):Prop:=
 ∃ v H',s'.os=s.os/\AllBare s'.gens/\Un (ky outer) [] H H' s.heap s'.heap/\eD P w H' s'.heap/\RelV v u/\Q v H'
abbrev CR (CX:qq)(outer:List Env)(P:Program)(w:World)(H:Hp)(s:Shared)(Q:VK)(E:XK)(r:Result)(s':Shared):Prop:=
 match r with
 | .ok (.ret u)=>CE outer P w H s Q u s'
 | .ok _=>False
 | .error e=>CX outer H s E e s'
structure cE (c:Bool) (P:Program) (w:World) (K:W.Frag) (mg:GF) (base:Heap) (CX:qq) (k:Nat) (f:Addr) (fd:FuncData) (ps:List Str) (sp:Sp):Prop where
 len:∀ vs H Q E,sp vs H Q E->vs.length=ps.length
 run:∀ (A:Around) (outer:List Env) (s:Shared) (H:Hp) (args:Args) (us:List Value) (vs:List V) (Q:VK) (E:XK),bb k A->sL c A.handled H->nI P w K mg base A outer s H->BindsTo s fd args (ps.zip us)->Vals vs us->sp vs H Q E->
  codeAny (model P w) A (.call (.ref f) args) (CR CX outer P w H s Q E) s
variable {c:Bool}{mg:GF}{base:Heap}{CX:qq}{fd:FuncData}{ps:List Str}
def cE.imp {f:Addr}{sp sp':Sp}(F:cE c P w K mg base CX k f fd ps sp)
  (h:∀ vs H Q E,sp' vs H Q E->sp vs H Q E):cE c P w K mg base CX k f fd ps sp':=
 ⟨λvs H Q E q=>F.len vs H Q E (h _ _ _ _ q),λA outer s H args us vs Q E hr hh he hb hv hs=>F.run A outer s H args us vs Q E hr hh he hb hv (h _ _ _ _ hs)⟩
variable {outer:List Env}
def nI.make (e:nI P w K mg base A outer s H)(C:Addr)(us:List Value)(kw:List (Str×Value)):
  nI P w K mg base (A.under (.builtin "type.__call__" ⟨.ref C::us,kw⟩)) outer s H:=⟨by first|exact e.frames|(simpa[Around.under,Code.envs,Code.isFrame,pushEnvs] using e.frames),e.mod,e.bs,e.bsz,e.gi,e.frf,e.hok,e.bare⟩
section
variable {X:Cx}{Y:GD}{U:St}{H:Hp}{s s':Shared}
def Inv.fR (I:Inv X Y U H s):nI X.prog X.w X.K X.mg X.base X.A X.stack s H:=
 ⟨I.ok.frames,I.ok.mod,I.bs,Nat.le_trans I.ok.bsz I.sz,I.stack,I.jX,I.hok,I.bare⟩
def Inv.after {Q:VK}(I:Inv X Y U H s)(h:CE X.stack X.prog X.w H s Q u s'):EP X Y U Q u s':=by
 obtain⟨v,H',os,bare,un,hok,r,q⟩:=h;obtain⟨hh,g,d,t,os'⟩:=s';obtain rfl:os'=s.os:=os;exact⟨v,H',I.call (h':=hh) (g':=g) (d':=d) (t':=t) (ch:=[]) un hok bare (λb z=>absurd z (by simp)),r,q⟩
end
abbrev zd (sp:Sp)(dvs:List V)(E:St->XK)(t:TA):TE:=λU H Q=>t U H λvs H1=>sp (vs++dvs) H1 Q (E U)
abbrev zc (C:Addr)(sp:Sp)(dvs:List V)(E:St->XK)(t:TA):TE:=λU H Q=>t U H λvs H1=>∀ x dx,H1 x=none->H1 dx=none->dx≠x->
 sp (.ref x::(vs++dvs)) (upd (upd H1 dx (.own x)) x (.ins C dx [])) (λv H2=>v=.non/\Q (.ref x) H2) (E U)
abbrev Binds (K:W.Frag)(fd:FuncData)(ps:List Str)(ds:List Value):Prop:=
 ∀ (s:Shared) (us:List Value),K.In s.heap->(us++ds).length=ps.length->BindsTo s fd ⟨us,[]⟩ (ps.zip (us++ds))
def Binds.all (h:∀ us:List Value,us.length=ps.length->bindArgs fd ⟨us,[]⟩=pure (ps.zip us)):Binds K fd ps []:=λs us _ hl=>by
 rw[append_nil]at hl⊢;exact .of_eq (h us hl)
abbrev Passes (CX:qq)(X:Cx)(E:St->XK):Prop:=∀ (Y:GD) (U:St) (H:Hp) (s:Shared) (e:Value) (s':Shared),Inv X Y U H s->CX X.stack H s (E U) e s'->X.xe e s'
variable {vs:List V}
section
variable {c:Bool}{X:Cx}{CX:qq}{k:Nat}{f C:Addr}{fd:FuncData}{ps:List Str}{sp:Sp}{dvs:List V}{ds:List Value}{E:St->XK}{x m:Str}{p pos apos:Pos}{e o:Expr}{es:List Expr}{ta:TE}{t:TA}
def jT {Q:VK}(F:cE c X.prog X.w X.K X.mg X.base CX k f fd ps sp)(hh:∀ {Y:GD}{U:St}{H:Hp}{s:Shared}{vs:List V}{Q:VK}{E:XK},Inv X Y U H s->sp vs H Q E->sL c X.A.handled H) (hr:bb k X.A) (hb:Binds X.K fd ps ds) (hd:Vals dvs ds) (hx:Passes CX X E)
  (I:Inv X Y U H s) (r:Vals vs us) (h:sp (vs++dvs) H Q (E U)):wpAny (model X.prog X.w) X.A (call (.ref f) us) (EP X Y U Q) X.xe s:=by
 have r2:Vals (vs++dvs) (us++ds):=r.append hd;have hl:(us++ds).length=ps.length:=by rw[<-r2.length];exact F.len _ _ _ _ h
 refine wpAny_call (codeAny_mono (F.run X.A X.stack s H ⟨us,[]⟩ (us++ds) (vs++dvs) Q (E U) hr (hh I h) I.fR (hb s us I.bg hl) r2 h) λr s' hq=>?_);cases r with
 |error e=>exact hx Y U H s e s' I hq
 |ok fl=>
  cases fl with
  |ret u=>exact I.after hq
  |next=>exact False.elim hq
  |brk=>exact False.elim hq
  |cont=>exact False.elim hq
def wY (F:cE c X.prog X.w X.K X.mg X.base CX k f fd ps sp)(hh:∀ {Y:GD}{U:St}{H:Hp}{s:Shared}{vs:List V}{Q:VK}{E:XK},Inv X Y U H s->sp vs H Q E->sL c X.A.handled H) (hr:bb k X.A) (hg:Gl X x) (hm:X.mg x=some (.ref f)) (hk:W.keepIn X.K (.ref f)=true) (hb:Binds X.K fd ps ds) (hd:Vals dvs ds) (hx:Passes CX X E)
  (ha:PA X (e::es) t) (hdb:(x ==("__debug__":Str))=false:=by decide) (he:bm (e::es) X.env=(false,eval e X.env)::bm es X.env:=by rfl) (hpl:(backTo pos (bm es X.env)).any (·.1)=false:=by rfl):
  PE X (.Call (.Name x p) (e::es) [] pos) (zd sp dvs E t):=by
 intro Y s U H Q I h;refine bv (aV I hg hm ?_ hdb);refine W.callWith_K (h₀:=X.base) I.ok.mod.kin hk (ar (ha pos Y s U H _ I h) λus s1 ⟨vs,H1,I1,r,q⟩=>⟨I1.bg,?_⟩) he hpl;exact jT F hh hr hb hd hx I1 r q
def sU (F:cE c X.prog X.w X.K X.mg X.base CX k f fd ps sp)(hh:∀ {Y:GD}{U:St}{H:Hp}{s:Shared}{vs:List V}{Q:VK}{E:XK},Inv X Y U H s->sp vs H Q E->sL c X.A.handled H) (hr:bb k X.A) (hg:Gl X x) (hm:X.mg x=some (.ref f)) (hk:W.keepIn X.K (.ref f)=true) (hb:Binds X.K fd ps ds) (hd:Vals dvs ds) (hx:Passes CX X E)
  (hdb:(x ==("__debug__":Str))=false:=by decide):PE X (.Call (.Name x p) [] [] pos) (zd sp dvs E wW):=by
 intro Y s U H Q I h;refine bv (aV I hg hm ?_ hdb);exact W.callWith_K0 I.bg hk (jT (us:=[]) F hh hr hb hd hx I .nil h)
structure Mk (K:W.Frag) (C f:Addr):Prop where
 makes:W.makesIn K C=true
 init:W.findIn K (.ref C) "__init__"=some (some (.ref f))
 fn:W.isFn K (.ref f)=true
 kp:W.keepIn K (.ref C)=true
def lb {Q:VK}(M:Mk X.K C f)(F:cE c X.prog X.w X.K X.mg X.base CX k f fd ps sp)(hh:∀ {Y:GD}{U:St}{H:Hp}{s:Shared}{vs:List V}{Q:VK}{E:XK},Inv X Y U H s->sp vs H Q E->sL c X.A.handled H) (hr:bb (k+1) X.A) (hb:Binds X.K fd ps ds) (hd:Vals dvs ds)
  (hx:Passes CX X E) (I:Inv X Y U H s) (r:Vals vs us)
  (h:∀ x dx,H x=none->H dx=none->dx≠x->sp (.ref x::(vs++dvs)) (upd (upd H dx (.own x)) x (.ins C dx [])) (λv H2=>v=.non/\Q (.ref x) H2) (E U)):
  wpAny (model X.prog X.w) X.A (call (.ref C) us) (EP X Y U Q) X.xe s:=by
 have hq:=h (s.heap.objs.size+1) s.heap.objs.size (I.hok.fresh (Nat.le_succ _)) (I.hok.fresh (pi _)) (pc (Nat.lt_succ_self _));have I2:=Inv.made (C:=C) I;have r2:Vals (V.ref (s.heap.objs.size+1)::(vs++dvs)) (Value.ref (s.heap.objs.size+1)::(us++ds)):=.cons rfl (r.append hd);have hl:(Value.ref (s.heap.objs.size+1)::us++ds).length=ps.length:=by
  have e:=r2.length;rw[F.len _ _ _ _ hq]at e;exact e.symm
 refine wpAny_call (uL (f:=f) I.bg M.makes M.init (beq_iff_eq.mp M.fn) (codeAny_mono (F.run _ X.stack _ _ ⟨Value.ref (s.heap.objs.size+1)::us,[]⟩ (Value.ref (s.heap.objs.size+1)::(us++ds)) _ _ (E U) (hr.make C us []) (hh I2 hq)
  (I2.fR.make C us []) (hb _ (Value.ref (s.heap.objs.size+1)::us) I2.bg hl) r2 hq) λr s' hq'=>?_))
 cases r with
 |error e=>exact hx Y U _ _ e s' I2 hq'
 |ok fl=>
  cases fl with
  |ret u=>
   obtain⟨v,H',I3,rv,ev,q3⟩:=I2.after hq';subst ev;exact⟨rv,⟨V.ref (s.heap.objs.size+1),H',I3,rfl,q3⟩⟩
  |next=>exact False.elim hq'
  |brk=>exact False.elim hq'
  |cont=>exact False.elim hq'
def yH (M:Mk X.K C f)(F:cE c X.prog X.w X.K X.mg X.base CX k f fd ps sp)(hh:∀ {Y:GD}{U:St}{H:Hp}{s:Shared}{vs:List V}{Q:VK}{E:XK},Inv X Y U H s->sp vs H Q E->sL c X.A.handled H) (hr:bb (k+1) X.A) (hg:Gl X x) (hm:X.mg x=some (.ref C)) (hb:Binds X.K fd ps ds) (hd:Vals dvs ds) (hx:Passes CX X E)
  (ha:PA X (e::es) t) (hdb:(x ==("__debug__":Str))=false:=by decide) (he:bm (e::es) X.env=(false,eval e X.env)::bm es X.env:=by rfl) (hpl:(backTo pos (bm es X.env)).any (·.1)=false:=by rfl):
  PE X (.Call (.Name x p) (e::es) [] pos) (zc C sp dvs E t):=by
 intro Y s U H Q I h;refine bv (aV I hg hm ?_ hdb);refine W.callWith_K (h₀:=X.base) I.ok.mod.kin M.kp (ar (ha pos Y s U H _ I h) λus s1 ⟨vs,H1,I1,r,q⟩=>⟨I1.bg,?_⟩) he hpl;exact lb M F hh hr hb hd hx I1 r q
def tP (M:Mk X.K C f)(F:cE c X.prog X.w X.K X.mg X.base CX k f fd ps sp)(hh:∀ {Y:GD}{U:St}{H:Hp}{s:Shared}{vs:List V}{Q:VK}{E:XK},Inv X Y U H s->sp vs H Q E->sL c X.A.handled H) (hr:bb (k+1) X.A) (hg:Gl X x) (hm:X.mg x=some (.ref C)) (hb:Binds X.K fd ps ds) (hd:Vals dvs ds) (hx:Passes CX X E)
  (hdb:(x ==("__debug__":Str))=false:=by decide):PE X (.Call (.Name x p) [] [] pos) (zc C sp dvs E wW):=by
 intro Y s U H Q I h;refine bv (aV I hg hm ?_ hdb);exact W.callWith_K0 I.bg M.kp (lb (us:=[]) M F hh hr hb hd hx I .nil h)
end
section
variable {X:Cx}{CX:qq}{k:Nat}{f C:Addr}{fd:FuncData}{ps ks:List Str}{sp:Sp}{E:St->XK}{x m:Str}{p pos apos kpos:Pos}{e o:Expr}{es:List Expr}{kws:List Keyword}{te ta:TE}{t tk:TA}{nm:Option Str}
variable {g:List Value->List Value->List Value}{gV:List V->List V->List V}
end
structure gP (N P:List Str) (sc:Scope):Prop where
 kind:sc.kind=.function
 co:sc.isCoroutine=false
 gen:sc.isGenerator=false
 nd:N.Nodup
 pre:N.take P.length=P
 par:∀ x ∈ P,sc.names.lookup x=some .local\/sc.names.lookup x=some .cell
 nofree:∀ y ∈ sc.names,y.2≠.free
def js {kindOf:Str->Option NameKind}{x:Str}:∀ {binds:List (Str×Value)}{m:GF},(∀ v,(x,v) ∉ binds)->bindL kindOf binds m x=m x
 | [],_,_=>rfl
 |(n,v)::r,m,h=>by
  unfold bindL;rw[js λw hw=>h w (dl _ hw)]
  split
  .have:x≠n:=by rintro rfl;exact h v li
   simp[this]
  .rfl
def jD {kindOf:Str->Option NameKind}{x:Str}:∀ {binds:List (Str×Value)}{m:GF},(∀ v,(x,v) ∉ binds)->bindC kindOf binds m x=m x
 | [],_,_=>rfl
 |(n,v)::r,m,h=>by
  unfold bindC;rw[jD λw hw=>h w (dl _ hw)]
  split
  .rfl
  .have:x≠n:=by rintro rfl;exact h v li
   simp[this]
def jL {kindOf:Str->Option NameKind}{x:Str}{v:Value}:∀ {P:List Str}{vs:List Value}{i:Nat}{m:GF},P.Nodup->P[i]? =some x->vs[i]? =some v->kindOf x=some .local->
  bindL kindOf (P.zip vs) m x=some v
 | [],_,_,_,_,h,_,_=>by simp at h
 |_::_,[],_,_,_,_,h,_=>by simp at h
 |p::P,w::vs,0,m,nd,h1,h2,hk=>by
  simp at h1 h2;subst h1;subst h2;show bindL kindOf ((p,w)::P.zip vs) m p=_;unfold bindL;rw[js λv hv=>(nodup_cons.mp nd).1 (of_mem_zip hv).1,if_pos hk];simp
 |p::P,w::vs,i+1,m,nd,h1,h2,hk=>by
  show bindL kindOf ((p,w)::P.zip vs) m x=_;unfold bindL;exact jL (i:=i) (nodup_cons.mp nd).2 (by simpa using h1) (by simpa using h2) hk
def jG {kindOf:Str->Option NameKind}{x:Str}{v:Value}:∀ {P:List Str}{vs:List Value}{i:Nat}{m:GF},P.Nodup->P[i]? =some x->vs[i]? =some v->kindOf x≠some .local->
  bindC kindOf (P.zip vs) m x=some v
 | [],_,_,_,_,h,_,_=>by simp at h
 |_::_,[],_,_,_,_,h,_=>by simp at h
 |p::P,w::vs,0,m,nd,h1,h2,hk=>by
  simp at h1 h2;subst h1;subst h2;show bindC kindOf ((p,w)::P.zip vs) m p=_;unfold bindC;rw[jD λv hv=>(nodup_cons.mp nd).1 (of_mem_zip hv).1,if_neg hk];simp
 |p::P,w::vs,i+1,m,nd,h1,h2,hk=>by
  show bindC kindOf ((p,w)::P.zip vs) m x=_;unfold bindC;exact jG (i:=i) (nodup_cons.mp nd).2 (by simpa using h1) (by simpa using h2) hk
abbrev start (N:List Str)(vs:List V):St:=vs.map some++ss (N.length-vs.length) none
abbrev su (c:Bool)(CX:qq)(P:Program)(w:World)(K:W.Frag)(mg:GF)(base:Heap)(N:List Str)(qual:Str)(scope:Scope)(f:Addr)(cd:Value)(A:Around)(outer:List Env)(s:Shared)(H:Hp)(E:XK):Cx where
 prog:=P
 w:=w
 K:=K
 mg:=mg
 base:=base
 A:=A.deeper (envOfC qual scope s.heap.objs.size f cd)
 N:=N
 s₀:=s
 H₀:=H
 env:=envOfC qual scope s.heap.objs.size f cd
 outer:=outer
 stack:=envOfC qual scope s.heap.objs.size f cd::outer
 ex:=[]
 calm:=c
 fn:=λ_=>true
 pn:=[]
 xe:=λe s'=>wpAny (model P w) (A.deeper (envOfC qual scope s.heap.objs.size f cd)) (leaving (envOfC qual scope s.heap.objs.size f cd) e) (λ_ s''=>CX outer H s E e s'') (λe' s''=>CX outer H s E e' s'') s'
def lL {sc:Scope}{n:Nat}(h:sc.names.lookup x=some .cell):∃ c,(cellsFrom n sc.names []).lookup x=some c:=by
 have q:=W.cellsFrom_some sc.names n [] (.inl h);exact Option.isSome_iff_exists.mp q
variable {scope:Scope}
def rW {N:List Str}{qual:Str}{f:Addr}{cd:Value}{s1:Shared}{E:XK}
  (S:gP N ps scope) (hd:c=true->A.handled=none) (e0:nI P w K mg base A outer s H) (hl:vs.length=ps.length) (r:Vals vs us)
  (x:InCallC s s.heap.objs.size (bindL (envOfC qual scope s.heap.objs.size f cd).kindOf (ps.zip us) λ_=>none) (cellsFrom (s.heap.objs.size+1) scope.names []) (bindC (envOfC qual scope s.heap.objs.size f cd).kindOf (ps.zip us) λ_=>none) s1):
  Inv (su c CX P w K mg base N qual scope f cd A outer s H E) [] (start N vs) H s1:=by
 have hpl:ps.length<=N.length:=by have:=congrArg List.length S.pre;rw[db]at this;omega
 obtain⟨h1,tk,rfl,hk⟩:=x.done;have noA:∀ b:Addr,b ∉ (su c CX P w K mg base N qual scope f cd A outer s H E).ex:=λb z=>absurd (show b ∈ ([]:List Addr) from z) (by simp)
 refine⟨⟨e0.mod,S.kind,rfl,rfl,pi _,λy z c h1 h2=>?_,λy hy=>?_,λy c _ h=>?_,hd,Around.frames_deeper e0.frames,.inr ⟨rfl,rfl⟩,λb z=>absurd z (noA b),e0.bs,e0.bsz,λb _ _=>noA b,λb z=>absurd z (noA b),e0.gi,e0.frf⟩,
  rfl,e0.bare,Un.kept hk,⟨_,x.toInCall.ns,λi y v h1 h2 h3=>?_⟩,λy c h=>⟨_,x.cell y c h⟩,e0.hok.fresh (pi _),λy c h=>?_,λp hp=>absurd (show p ∈ ([]:GD) from hp) (by simp),e0.hok.kept hk,?_⟩
 .exact name_of_addr x.apart (PySem.mem_of_lookup h1) (PySem.mem_of_lookup h2)
 .have hy:scope.names.lookup y=some .cell\/scope.names.lookup y=some .free:=hy;rcases hy with hy|hy
  .exact lL hy
  .exact absurd rfl (S.nofree _ (PySem.mem_of_lookup hy))
 .exact Nat.le_of_lt (x.above y c (PySem.mem_of_lookup h))
 .have hi:i<vs.length:=by
   unfold start at h2
   by_cases hi:i<vs.length
   .exact hi
   .rw[getElem?_append_right (by simpa using hi)]at h2;rw[List.getElem?_replicate]at h2
    split at h2<;>cases h2
  have ha:vs[i]? =some v:=by
   unfold start at h2;rw[List.getElem?_append_left (by simpa using hi),im]at h2;cases e:vs[i]? with
   |none=>rw[e]at h2;cases h2
   |some a=>rw[e]at h2;cases h2;rfl
  obtain⟨u,hu,rv⟩:=r.get ha;have hp:ps[i]? =some y:=by
   rw[<-S.pre,List.getElem?_take_of_lt nofun];exact h1
  have ndP:ps.Nodup:=by rw[<-S.pre];exact S.nd.sublist (take_sublist _ _)
  refine⟨u,rv,?_⟩;rcases S.par y (cr hp) with k|k
  .exact .inl ⟨k,jL ndP hp hu k⟩
  .obtain⟨c,e⟩:=lL (n:=s.heap.objs.size+1) k;refine .inr ⟨.inl k,c,e,?_⟩;have q:=x.cell y c e;rw[jG ndP hp hu (by show scope.names.lookup y≠_;rw[k];decide)]at q;exact q
 .exact e0.hok.fresh (Nat.le_of_lt (x.above y c (PySem.mem_of_lookup h)))
 .unfold start;show _=N.length;rw[ci,ce,List.length_replicate]
  omega
def CO {f:Addr}{name qual:Str}{params:Arguments}{dV kV doc pm cdv ct oc:Value}{an od:Option Addr}
  {osl:Array (Option Value)}{N:List Str}{sp:Sp}(lk:K.lookup f=some ⟨oc,od,.func (W.fnOf name qual params body scope dV kV doc pm an cdv ct),osl⟩) (hcd:W.codeIn K cdv qual=true) (S:gP N ps scope)
  (len:∀ vs H Q E,sp vs H Q E->vs.length=ps.length)
  (hbody:∀ (A:Around) (outer:List Env) (s:Shared) (H:Hp) (vs:List V) (Q:VK) (E:XK),bb k (A.deeper (envOfC qual scope s.heap.objs.size f cdv))->sL c A.handled H->sp vs H Q E->
   ∃ t,zq (su c CX P w K mg base N qual scope f cdv A outer s H E) body t/\t { nx:=λ_ H'=>Q .non H',rt:=Q } (start N vs) H):
  cE c P w K mg base CX (k+1) f (W.fnOf name qual params body scope dV kV doc pm an cdv ct) ps sp:=by
 refine⟨len,λA outer s H args us vs Q E hr hh e0 hb r hsp=>?_⟩;have hl:=len _ _ _ _ hsp;have KX:K.In s.heap:=e0.mod.kin.keeps λb o e=>(e0.bs b o e).1
 have lim:s.heap.NoLimit:=e0.mod.nolimit.keeps λb o e=>(e0.bs b o e).1
 have hkind:∀ y ∈ ps.zip us,scope.names.lookup y.1=some .local\/(scope.names.lookup y.1=some .cell/\((cellsFrom (s.heap.objs.size+1) scope.names []).lookup y.1).isSome=true):=λ⟨n,v⟩ hy=>by
  rcases S.par n (of_mem_zip hy).1 with q|q
  .exact .inl q
  .exact .inr ⟨q,W.cellsFrom_some _ _ _ (.inl q)⟩
 refine codeAny_call_function hr.depth (KX _ _ lk) rfl S.co S.gen rfl (W.codeRec_of KX hcd) (hb _ _ _ _ ?_);refine wpAny_newFunctionEnv_cells S.kind hkind λenv he s1 x=>?_
 subst he;refine⟨lim.keeps x.toInCall.keep,codeAny_func ?_⟩;obtain⟨t,ht,hq⟩:=hbody A outer s H vs Q E (hr.deeper _) hh hsp;have I:Inv (su c CX P w K mg base N qual scope f cdv A outer s H E) [] (start N vs) H s1:=rW S (λz=>by subst z;exact hh) e0 hl r x;refine wpAny_mono (ht [] s1 (start N vs) H _ I hq) (λfl s' hs=>?_) λe s' hs=>hs
 have fin:∀ {σ':St}{H':Hp}{v:V}{u:Value},Inv (su c CX P w K mg base N qual scope f cdv A outer s H E) [] σ' H' s'->RelV v u->Q v H'->CE outer P w H s Q u s':=
  λ{σ' H' v u} J rv q=>⟨v,H',J.os,J.bare,J.base,J.hok,rv,q⟩
 cases fl with
 |ret u=>
  obtain⟨v,σ',H',J,rv,q⟩:=hs;exact fin J rv q
 |next=>
  obtain⟨σ',H',J,q⟩:=hs;exact fin (v:=V.non) (u:=Value.none) J rfl q
 |brk=>
  obtain⟨_,_,_,q⟩:=hs;exact False.elim q
 |cont=>
  obtain⟨_,_,_,q⟩:=hs;exact False.elim q
section
variable {X:Cx}{x:Str}{p pos:Pos}{e:Expr}{es:List Expr}{t:TA}{id T:String}{r:List V->Hp->VK->Prop}
abbrev FI (r:List V->Hp->VK->Prop)(t:TA):TE:=λU H Q=>t U H λvs H1=>r vs H1 Q
def iQ (hc:bU X (.builtin id) r)(hg:Gl X x)(hm:X.mg x=none)(hv:bootBuiltins x=some (.builtin id))(ha:PA X (e::es) t)(hn:x≠"__name__":=by decide) (hdb:(x ==("__debug__":Str))=false:=by decide)
  (he:bm (e::es) X.env=(false,eval e X.env)::bm es X.env:=by rfl) (hpl:(backTo pos (bm es X.env)).any (·.1)=false:=by rfl):PE X (.Call (.Name x p) (e::es) [] pos) (FI r t):=by
 intro Y s U H Q I h;refine bv (cO I hg hm hv ?_ hn hdb);exact PyProof.Rows.callWith_builtin1 (ar (ha pos Y s U H _ I h) λus s1 ⟨vs,H1,I1,r1,q1⟩=>hc Y s1 U H1 vs us Q I1 r1 q1) he hpl
def qY (hc:bU X (.type T) r)(hg:Gl X x)(hm:X.mg x=none)(hv:bootBuiltins x=some (.type T))(ha:PA X (e::es) t)(hn:x≠"__name__":=by decide) (hdb:(x ==("__debug__":Str))=false:=by decide)
  (he:bm (e::es) X.env=(false,eval e X.env)::bm es X.env:=by rfl) (hpl:(backTo pos (bm es X.env)).any (·.1)=false:=by rfl):PE X (.Call (.Name x p) (e::es) [] pos) (FI r t):=by
 intro Y s U H Q I h;refine bv (cO I hg hm hv ?_ hn hdb);exact PyProof.Rows.callWith_type1 (ar (ha pos Y s U H _ I h) λus s1 ⟨vs,H1,I1,r1,q1⟩=>hc Y s1 U H1 vs us Q I1 r1 q1) he hpl
end
end L2
namespace HT
open PySem PyProof.Rows
section
open PySem.SeqAt
open PySem.AutoSeq1 (wpAny_loadPart')
open PySem.MeetsSeq PySem.MeetsSeq2 PySem.MeetsSeq3
end
section
variable {prog:Program}{w:World}{A:Around}{E:GC}{s:Shared}
abbrev k7 (n d:Nat):Option Int->Nat
 |none=>d
 |some v=>if v<0 then(v+(n:Int)).toNat else min v.toNat n
end
end HT
namespace L2
open PySem PySem.Spec PyProof.Rows
@[reducible]def TO:=St->Hp->(Option Int->Hp->Prop)->Prop
abbrev PO (X:Cx)(e:Option Expr)(t:TO):Prop:=
 ∀ (Y:GD) (s:Shared) (U:St) (H:Hp) (Q:Option Int->Hp->Prop),Inv X Y U H s->t U H Q->
  wpAny (model X.prog X.w) X.A (evalPart e X.env) (λu s'=>∃ o H',Inv X Y U H' s'/\IsPart u o/\Q o H') X.xe s
abbrev xM:TO:=λ_ H Q=>Q none H
abbrev Dt (t:TE):TO:=λU H Q=>t U H λx H1=>∃ i,x=.int i/\Q (some i) H1
section
variable {X:Cx}{e:Expr}{te:TE}{lo hi:Option Expr}{tl th:TO}{pos p2:Pos}
def yh:PO X none xM:=by
 intro Y s U H Q I h;rw[evalPart_none];exact am ⟨none,H,I,.none,h⟩
def yM (h:PE X e te):PO X (some e) (Dt te):=by
 intro Y s U H Q I hw;rw[evalPart_some];refine ar (h Y s U H _ I hw) λu s1 ⟨x,H1,I1,r1,q1⟩=>?_
 obtain⟨i,rfl,q⟩:=q1;obtain⟨t,rfl⟩:=r1;exact⟨some i,H1,I1,.int i t,q⟩
abbrev Ee (X:Cx)(r:V->Option Int->Option Int->Hp->VK->Prop):Prop:=
 ∀ (Y:GD) (s:Shared) (U:St) (H:Hp) (x:V) (v vl vu:Value) (lo hi:Option Int) (sl:Addr) (Q:VK),Inv X Y U H s->RelV x v->s.heap.IsSliceOf sl vl vu .none->IsPart vl lo->IsPart vu hi->r x lo hi H Q->
  ∃ T id,typeLookup (.type T) "__getitem__"=pure (some (.builtin id))/\s.TypeIs v T/\wpAny (model X.prog X.w) X.A (getItem v (.ref sl)) (EP X Y U Q) X.xe s
abbrev Gu (r:V->Option Int->Option Int->Hp->VK->Prop)(te:TE)(tl th:TO):TE:=λU H Q=>te U H λx H1=>tl U H1 λl H2=>th U H2 λu H3=>r x l u H3 Q
def vL {r:V->Option Int->Option Int->Hp->VK->Prop}(hr:Ee X r)(he:PE X e te)(hl:PO X lo tl)(hu:PO X hi th):PE X (.Subscript e (.Slice lo hi none p2) pos) (Gu r te tl th):=by
 intro Y s U H Q I h;refine Subscript_ (ar (he Y s U H _ I h) λv s1 ⟨x,H1,I1,r1,q1⟩=>?_);refine wpAny_Slice (ar (hl Y s1 U H1 _ I1 q1) λvl s2 ⟨l,H2,I2,pl,q2⟩=>ar (hu Y s2 U H2 _ I2 q2) λvu s3 ⟨u,H3,I3,pu,q3⟩=>?_);rw[evalPart_none];refine am ?_;have I4:Inv X Y U H3 { s3 with heap:=s3.heap.push { cls:=.type "slice",data:=.fields #[vl,vu,.none] } }:=I3.kept (t':=s3.toks) λb ob q=>sK _ q
 obtain⟨T,id,hT,ht,hg⟩:=hr Y { s3 with heap:=s3.heap.push { cls:=.type "slice",data:=.fields #[vl,vu,.none] } } U H3 x v vl vu l u s3.heap.objs.size Q I4 r1 (Heap.IsSliceOf.new ..) pl pu q3;show wpAny (model X.prog X.w) X.A (subscriptTail e (.Slice lo hi none p2) v (.ref s3.heap.objs.size)) (EP X Y U Q) X.xe { s3 with heap:=s3.heap.push { cls:=.type "slice",data:=.fields #[vl,vu,.none] } };exact tail_any (ops:=[.ref s3.heap.objs.size,v]) ht hT hg (by with_unfolding_all rfl)
abbrev f6 (xs:List V)(lo hi:Option Int):List V:=(xs.drop (HT.k7 xs.length 0 lo)).take (HT.k7 xs.length xs.length hi-HT.k7 xs.length 0 lo)
def mx (xs:List V)(lo hi:Option Int):(f6 xs lo hi).length<=xs.length:=by
 unfold f6;rw[db,io]
 omega
end
abbrev sF (n:Nat)(i:Int):Option Nat:=if 0<=i then(if i<n then some i.toNat else none) else if -(n:Int)<=i then some (i+n).toNat else none
variable {α:Type}
abbrev jc (xs:List α)(i:Int):Option α:=(sF xs.length i).bind λj=>xs[j]?
variable {n:Nat}
def qt {i:Int}{j:Nat}(h:sF n i=some j):seqIndex? i n=some j/\j<n/\ -(n:Int)<=i/\i<n:=by
 unfold sF at h
 by_cases h0:0<=i
 .rw[if_pos h0]at h
  by_cases h1:i<n
  .rw[if_pos h1]at h;have e:i.toNat=j:=Option.some.inj h;exact⟨by rw[seqIndex_of h0 h1,e],by omega,by omega,h1⟩
  .rw[if_neg h1]at h;cases h
 .rw[if_neg h0]at h
  by_cases h1: -(n:Int)<=i
  .rw[if_pos h1]at h;have e:(i+n).toNat=j:=Option.some.inj h;exact⟨by rw[seqIndex_neg nofun h1,e],by omega,h1,by omega⟩
  .rw[if_neg h1]at h;cases h
def gO {xs:List α}{i:Int}{v:α}(h:jc xs i=some v):∃ j,seqIndex? i xs.length=some j/\xs[j]? =some v/\j<xs.length/\ -(xs.length:Int)<=i/\i<xs.length:=by
 unfold jc at h;cases e:sF xs.length i with
 |none=>rw[e]at h;cases h
 |some j=>
  rw[e]at h;obtain⟨h1,h2,h3,h4⟩:=qt e;exact⟨j,h1,h,h2,h3,h4⟩
def gN {xs:List α}{j:Nat}{v:α}(h:xs[j]? =some v):jc xs (j:Int)=some v:=by
 have hj:j<xs.length:=(sw.mp h).1;have e:sF xs.length (j:Int)=some j:=by
  unfold sF;rw[if_pos nofun,if_pos nofun];simp
 unfold jc;rw[e];exact h
abbrev pW (b:Expr):Prop:=∀ o i,subscripted b false o i=operate [o,i] (getItem o i)
abbrev C5 (X:Cx)(r:R2):Prop:=
 ∀ (value slice:Expr) (Y:GD) (s:Shared) (U:St) (H:Hp) (x y:V) (v u:Value) (Q:VK),Inv X Y U H s->RelV x v->RelV y u->r x y H Q->
  subscripted slice false v u=operate [v,u] (getItem v u)->wpAny (model X.prog X.w) X.A (subscriptTail value slice v u) (EP X Y U Q) X.xe s
abbrev Eh (X:Cx)(id:String)(r:V->List V->Hp->VK->Prop):Prop:=
 ∀ (Y:GD) (s:Shared) (U:St) (H:Hp) (x:V) (xs:List V) (v:Value) (us:List Value) (Q:VK),Inv X Y U H s->RelV x v->Vals xs us->r x xs H Q->
  wpAny (model X.prog X.w) X.A (call (.builtin id) (v::us)) (EP X Y U Q) X.xe s
variable {Y:GD}{U:St}{H:Hp}{s:Shared}{y:V}{u:Value}
section
variable {X:Cx}{a b:Expr}{ta tb:TE}{pos:Pos}
def Di {r:R2}(hr:C5 X r)(ha:PE X a ta)(hb:PE X b tb)(hs:pW b):PE X (.Subscript a b pos) (Ej r ta tb):=by
 intro Y s U H Q I h;exact Subscript_ (zU ha hb I h λv u s2 x y H2 I2 rx ry q=>hr a b Y s2 U H2 x y v u Q I2 rx ry q (hs _ _))
abbrev Er (K:W.Frag):R2:=λx y H Q=>∃ p xs i v,x=.ref p/\y=.int i/\aN K H p xs/\jc xs i=some v/\Q v H
abbrev EH (K:W.Frag):R2:=λx y H Q=>∃ p xs i v,x=.ref p/\y=.int i/\ba K H p xs/\jc xs i=some v/\Q v H
def yD:C5 X (Er X.K):=by
 intro value slice Y s U H x y v u Q I rx ry h hs;obtain⟨p,xs,i,z,rfl,rfl,hq,he,q⟩:=h;cases rx;obtain⟨t,rfl⟩:=ry;obtain⟨its,r,pl,hz⟩:=I.list hq;obtain⟨j,h1,h2,h3,h4,h5⟩:=gO he;obtain⟨w,ew,rw'⟩:=r.get h2;have hl:=r.length;have hn:=eK;have fin:EP X Y U Q w s:=⟨z,H,I,rw',q⟩
 by_cases h0:0<=i
 .have hj:i.toNat=j:=by
   rw[seqIndex_of h0 h5]at h1;exact Option.some.inj h1
  exact item_listR pl.isList h0 nofun (by rw[hj];simpa using ew) fin hs
 .have hj:(i+(its.toArray.size:Int)).toNat=j:=by
   rw[seqIndex_neg nofun h4]at h1;rw[ge,<-hl];exact Option.some.inj h1
  exact subscriptTail_builtinR (x:=w) pl.isList.typeIs slot_list_getitem.lookup
   (wpAny_getItem_list_neg (Q:=λr s'=>r=w/\EP X Y U Q r s') pl.isList nofun (by rw[ge]<;>omega) nofun (by rw[hj];simpa using ew) ⟨rfl,fin⟩) hs
def AF:C5 X (EH X.K):=by
 intro value slice Y s U H x y v u Q I rx ry h hs;obtain⟨p,xs,i,z,rfl,rfl,hq,he,q⟩:=h;cases rx;obtain⟨t,rfl⟩:=ry;obtain⟨its,r,pl,hz⟩:=I.tuple hq;obtain⟨j,h1,h2,h3,h4,h5⟩:=gO he;obtain⟨w,ew,rw'⟩:=r.get h2;have hl:=r.length;have hn:=eK;have fin:EP X Y U Q w s:=⟨z,H,I,rw',q⟩;exact subscriptTail_builtinR (x:=w) pl.typeIs slot_tuple_getitem.lookup
  (getItem_tuple (j:=j) (Q:=λr s'=>r=w/\EP X Y U Q r s') pl nofun nofun (by rw[ge,<-hl];exact h1) (by simpa using ew) ⟨rfl,fin⟩) hs
def o5 (its:List Value)(n j:Nat)(u:Value):Obj.mapSeq (·.setIfInBounds j u) { cls:=.type "list",data:=.seq its.toArray n }={ cls:=.type "list",data:=.seq (its.set j u).toArray n }:=by
 simp[Obj.mapSeq]
def Inv.lst {Y:GD}{U:St}{H:Hp}{s:Shared}{p:Addr}{xs:List V}(I:Inv X Y U H s)(h:H p=some (.lst xs)):
  ∃ (its:List Value) (n:Nat),Vals xs its/\s.heap.get? p=some { cls:=.type "list",data:=.seq its.toArray n }/\xs.length<=bn:=by
 obtain⟨z,its,n,r,e⟩:=I.hok p _ h;exact⟨its,n,r,e,z⟩
def Inv.An {p:Addr}{xs ys:List V}{its its':List Value}{n':Nat}{f:Obj->Obj}(I:Inv X Y U H s)(h:H p=some (.lst xs))
  (ho:s.heap.get? p=some { cls:=.type "list",data:=.seq its.toArray n }) (hf:f { cls:=.type "list",data:=.seq its.toArray n }={ cls:=.type "list",data:=.seq its'.toArray n' }) (r:Vals ys its') (hz:ys.length<=bn) (t:Nat):
  Inv X Y U (upd H p (.lst ys)) { s with heap:=s.heap.update p f,toks:=t }:=by
 have e:(s.heap.update p f).get? p=some { cls:=.type "list",data:=.seq its'.toArray n' }:=by
  rw[Heap.get?_update_self f ho (by rw[hf]<;>rfl),hf]
 refine I.write (x:=p) (e:=p) (by rw[h];trivial) (.inl rfl) (λb u hb q=>(Heap.get?_update_other _ _ (Ne.symm hb)).trans q) ⟨_,e⟩ ?_;exact⟨hz,its',n',r,e⟩
abbrev Dk:V->V->V->Hp->(Hp->Prop)->Prop:=λo i v H Q=>∃ p xs k j,o=.ref p/\i=.int k/\H p=some (.lst xs)/\sF xs.length k=some j/\Q (upd H p (.lst (xs.set j v)))
def set_list:yq X Dk:=by
 intro Y s U H o i v ov iv u Q I ro ri rv h;obtain⟨p,xs,k,j,rfl,rfl,hp,hj,q⟩:=h;cases ro;obtain⟨t,rfl⟩:=ri;obtain⟨its,n,r,ho,hz⟩:=I.lst hp;obtain⟨h1,h2,h3,h4⟩:=qt hj;have hl:=r.length;have hn:=eK;have I':Inv X Y U (upd H p (.lst (xs.set j v))) { s with heap:=s.heap.update p (Obj.mapSeq (·.setIfInBounds j u)) }:=
  I.An hp ho (o5 its n j u) (r.set rv j) (by rw[length_set];exact hz) s.toks
 by_cases h0:0<=k
 .have hk:k.toNat=j:=by
   rw[seqIndex_of h0 h4]at h1;exact Option.some.inj h1
  exact W.ki_setAt ho h0 nofun (by rw[ge,<-hl];exact h4) (by rw[hk];exact⟨_,I',q⟩)
 .have hk:(k+(its.toArray.size:Int)).toNat=j:=by
   rw[seqIndex_neg nofun h3]at h1;rw[ge,<-hl];exact Option.some.inj h1
  exact W.ki_setBack ho nofun (by rw[ge,<-hl];exact h3) nofun (by rw[hk];exact⟨_,I',q⟩)
def kj (lo hi:Option Int)(n:Nat):(sliceBounds lo hi none n).1=((HT.k7 n 0 lo:Nat):Int)/\(sliceBounds lo hi none n).2.1=((HT.k7 n n hi:Nat):Int)/\(sliceBounds lo hi none n).2.2=1:=by
 refine⟨?_,?_,rfl⟩
 .cases lo with
  |none=>simp[sliceBounds,HT.k7]
  |some i=>
   simp only[sliceBounds,HT.k7,Option.getD_none,show(1:Int)>0 by decide,if_true]
   by_cases h:i<0
   .simp only[h,if_true]<;>omega
   .simp only[h,if_false]<;>omega
 .cases hi with
  |none=>simp[sliceBounds,HT.k7]
  |some i=>
   simp only[sliceBounds,HT.k7,Option.getD_none,show(1:Int)>0 by decide,if_true]
   by_cases h:i<0
   .simp only[h,if_true]<;>omega
   .simp only[h,if_false]<;>omega
def i4 (its:List Value)(lo hi:Option Int):slicePick its.toArray lo hi none=((its.drop (HT.k7 its.length 0 lo)).take (HT.k7 its.length its.length hi-HT.k7 its.length 0 lo)).toArray:=by
 obtain⟨h1,h2,h3⟩:=kj lo hi its.toArray.size;unfold slicePick;rw[h1,h2,h3];simp only[sliceRange_one,pick_run,ge]<;>rfl
abbrev Fi (K:W.Frag):V->Option Int->Option Int->Hp->VK->Prop:=λx lo hi H Q=>∃ a xs,x=.ref a/\aN K H a xs/\∀ p,H p=none->Q (.ref p) (upd H p (.lst (f6 xs lo hi)))
def wN:Ee X (Fi X.K):=by
 intro Y s U H x v vl vu lo hi sl Q I rx hs pl pu h;obtain⟨a,xs,rfl,hx,q⟩:=h;cases rx;obtain⟨its,r,ht,hz⟩:=I.list hx;have hlen:=r.length;refine⟨"list",_,slot_list_getitem.lookup,ht.isList.typeIs,?_⟩;refine wpAny_getItem_list_slice ht.isList hs pl pu .none (by simp) ?_ (by rw[ge]<;>omega);rw[i4,<-hlen];refine⟨.ref s.heap.objs.size,_,I.laid (t':=s.toks) (o:=.lst (f6 xs lo hi)) (λb ob q=>sK _ q) (pi _) ?_,rfl,q _ (I.hok.fresh (pi _))⟩;exact⟨Nat.le_trans (mx xs lo hi) hz,_,0,(r.drop (HT.k7 xs.length 0 lo)).take (HT.k7 xs.length xs.length hi-HT.k7 xs.length 0 lo),ul _ rfl⟩
abbrev ay:V->Bool
 | .non=>true
 | .bl _=>true
 | .int _=>true
 | .str _=>true
 |_=>false
abbrev la:V->V->Bool
 | .non,.non=>true
 | .bl a,.bl b=>a ==b
 | .bl a,.int b=>(if a then 1 else 0) ==b
 | .int a,.bl b=>a ==(if b then 1 else 0)
 | .int a,.int b=>a ==b
 | .str a,.str b=>a ==b
 |_,_=>false
def ui {A:Around}{x:V}{v:Value}(ry:RelV y u)(rx:RelV x v)(fy:ay y=true)(fx:ay x=true):SeqAt.EqAt A s u v (la y x):=by
 cases y with
 |non=>
  cases ry;cases x with
  |non=>cases rx;exact SeqAt.EqAt.same _
  |bl b=>cases rx;exact SeqAt.EqAt.none_bool b
  |int b=>obtain⟨t,rfl⟩:=rx;exact SeqAt.EqAt.none_int b t
  |str b=>obtain⟨t,rfl⟩:=rx;exact SeqAt.EqAt.none_str b t
  |_=>exact absurd (show false=true from fx) Bool.false_ne_true
 |bl a=>
  cases ry;cases x with
  |non=>cases rx;exact SeqAt.EqAt.bool_none a
  |bl b=>cases rx;exact SeqAt.EqAt.bool_bool a b
  |int b=>obtain⟨t,rfl⟩:=rx;exact SeqAt.EqAt.bool_int a b t
  |str b=>obtain⟨t,rfl⟩:=rx;exact SeqAt.EqAt.bool_str a b t
  |_=>exact absurd (show false=true from fx) Bool.false_ne_true
 |int a=>
  obtain⟨t',rfl⟩:=ry;cases x with
  |non=>cases rx;exact SeqAt.EqAt.int_none a t'
  |bl b=>cases rx;exact SeqAt.EqAt.int_bool a t' b
  |int b=>obtain⟨t,rfl⟩:=rx;exact SeqAt.EqAt.int_int a t' b t
  |str b=>obtain⟨t,rfl⟩:=rx;exact SeqAt.EqAt.int_str a t' b t
  |_=>exact absurd (show false=true from fx) Bool.false_ne_true
 |str a=>
  obtain⟨t',rfl⟩:=ry;cases x with
  |non=>cases rx;exact SeqAt.EqAt.str_none a t'
  |bl b=>cases rx;exact SeqAt.EqAt.str_bool a t' b
  |int b=>obtain⟨t,rfl⟩:=rx;exact SeqAt.EqAt.str_int a t' b t
  |str b=>obtain⟨t,rfl⟩:=rx;exact SeqAt.EqAt.str_str a t' b t
  |_=>exact absurd (show false=true from fx) Bool.false_ne_true
 |_=>exact absurd (show false=true from fy) Bool.false_ne_true
abbrev yB (x:V)(u:Value):Bool:=match u with
 | .none=>la .non x
 | .bool b=>la (.bl b) x
 | .int i _=>la (.int i) x
 | .str z _=>la (.str z) x
 |_=>false
def vb {x:V}(r:RelV y u)(f:ay y=true):yB x u=la y x:=by
 cases y with
 |non=>cases r;rfl
 |bl b=>cases r;rfl
 |int i=>obtain⟨t,rfl⟩:=r;rfl
 |str z=>obtain⟨t,rfl⟩:=r;rfl
 |_=>exact absurd (show false=true from f) Bool.false_ne_true
def kE {x:V}:∀ {xs:List V}{us:List Value},Vals xs us->xs.all ay=true->us.any (yB x)=xs.any λy=>la y x
 |_,_,.nil,_=>rfl
 |y::xs,u::us,.cons r t,f=>by
  rw[all_cons,lw]at f;rw[any_cons,any_cons,vb r f.1,kE t f.2]
def iB {A:Around}{s:Shared}{x:V}{v:Value}(rx:RelV x v)(fx:ay x=true):∀ {xs:List V}{us:List Value},Vals xs us->xs.all ay=true->∀ u ∈ us,SeqAt.EqAt A s u v (yB x u)
 |_,_,.nil,_=>λu hu=>by cases hu
 |y::xs,u::us,.cons r t,f=>λu' hu=>by
  rw[all_cons,lw]at f;rcases lv.mp hu with rfl|hu
  .rw[vb r f.1];exact ui r rx f.1 fx
  .exact iB rx fx t f.2 u' hu
abbrev Cb (x:V)(xs:List V):Bool:=xs.any λy=>la y x
abbrev F5 (K:W.Frag)(neg:Bool):R2:=λx y H Q=>∃ p xs,y=.ref p/\(aN K H p xs\/ba K H p xs)/\ay x=true/\xs.all ay=true/\Q (.bl (if neg then !Cb x xs else Cb x xs)) H
def qZ:bY X (compareOp .In) (F5 X.K false):=by
 intro Y s U H x y v u Q I rx ry h;obtain⟨p,xs,rfl,hq,fx,fs,q⟩:=h;cases ry;rcases hq with hq|hq
 .obtain⟨its,r,pl,hz⟩:=I.list hq;refine SeqAt.in_listAt (yB x) pl.isList (λw hw=>iB rx fx r fs w (by simpa using hw)) ⟨.bl _,H,I,rfl,?_⟩;rw[show its.toArray.any (yB x)=its.any (yB x) by simp,kE r fs];exact q
 .obtain⟨its,r,pl,hz⟩:=I.tuple hq;refine SeqAt.in_tupleAt (yB x) pl (λw hw=>iB rx fx r fs w (by simpa using hw)) ⟨.bl _,H,I,rfl,?_⟩;rw[show its.toArray.any (yB x)=its.any (yB x) by simp,kE r fs];exact q
def kJ:bU X (.type "list") (λxs H Q=>∃ p ys,xs=[.ref p]/\(aN X.K H p ys\/ba X.K H p ys)/\∀ l,H l=none->Q (.ref l) (upd H l (.lst ys))):=by
 intro Y s U H xs us Q I r h;obtain⟨p,ys,rfl,hq,q⟩:=h;obtain⟨u,rfl,rx⟩:=vals1 r;cases rx;have fin:∀ (its:List Value),Vals ys its->ys.length<=bn->∀ (h':Heap) (c':Nat),(∀ b o',s.heap.get? b=some o'->h'.get? b=some o')->
   h'.get? s.heap.objs.size=some { cls:=.type "list",dict:=none,data:=.seq its.toArray c',slots:=#[] }->EP X Y U Q (.ref s.heap.objs.size) { s with heap:=h' }:=λits r' hz h' c' kp e=>
  ⟨.ref s.heap.objs.size,_,I.laid (t':=s.toks) kp (pi _) (show ak X.prog X.w _ h' _ (.lst ys) from⟨hz,its,c',r',e⟩),rfl,q _ (I.hok.fresh (pi _))⟩
 rcases hq with hq|hq
 .obtain⟨its,r',pl,hz⟩:=I.list hq;have hlen:=r'.length;obtain⟨o,ho,hc,n,hd⟩:=pl.isList;exact call_list_seq p (.inl rfl) ho hc hd (λh' c' kp e=>fin its r' hz h' c' kp e) (by simp only[ge]<;>omega)
 .obtain⟨its,r',pl,hz⟩:=I.tuple hq;have hlen:=r'.length;obtain⟨o,ho,hc,n,hd⟩:=pl;exact call_list_seq p (.inr rfl) ho hc hd (λh' c' kp e=>fin its r' hz h' c' kp e) (by simp only[ge]<;>omega)
def jh:bU X (.type "tuple") (λxs H Q=>∃ p ys,xs=[.ref p]/\((aN X.K H p ys/\∀ l,H l=none->Q (.ref l) (upd H l (.tup ys)))\/(ba X.K H p ys/\Q (.ref p) H))):=by
 intro Y s U H xs us Q I r h;obtain⟨p,ys,rfl,h⟩:=h;obtain⟨u,rfl,rx⟩:=vals1 r;cases rx;rcases h with⟨hq,q⟩|⟨hq,q⟩
 .obtain⟨its,r',pl,hz⟩:=I.list hq;have hlen:=r'.length;refine call_tuple_list pl.isList (λh' kp=>?_) (by simp only[ge]<;>omega);have I1:Inv X Y U H { s with heap:=h' }:=I.kept (t':=s.toks) kp;have I2:Inv X Y U (upd H h'.objs.size (.tup ys)) { s with heap:=h'.push { cls:=.type "tuple",data:=.seq its.toArray } }:=
   I1.laid (t':=s.toks) (λb o e=>sK _ e) (pi _) (show ak X.prog X.w _ _ _ (.tup ys) from⟨hz,its,r',IsTup.new _ _⟩)
  exact⟨.ref h'.objs.size,_,I2,rfl,q _ (I1.hok.fresh (pi _))⟩
 .obtain⟨its,r',pl,hz⟩:=I.tuple hq;exact call_tuple_same pl ⟨.ref p,H,I,rfl,q⟩
abbrev EU (K:W.Frag)(T:String)(x:V)(H:Hp):Prop:=match x with
 | .str _=>T="str"
 | .int _=>T="int"
 | .ref p=>(T="list"/\∃ xs,aN K H p xs)\/(T="tuple"/\∃ o,K.lookup p=some o/\o.cls=.type "tuple"/\o.dict=none)\/
   (T="dict"/\((∃ kvs,H p=some (.dK kvs))\/∃ kvs,H p=some (.dT kvs)))\/(T="set"/\∃ S n,H p=some (.set S n))
 |_=>False
def vC {T:String}{x:V}{v:Value}(I:Inv X Y U H s)(r:RelV x v)(ty:EU X.K T x H):
  s.TypeIs v T/\∀ a,v=.ref a->∃ ob,s.heap.get? a=some ob/\ob.dict=none:=by
 cases x with
 |str z=>
  obtain⟨t,rfl⟩:=r;cases(show T="str" from ty);exact⟨typeIs_str s z t,λ_ e=>nomatch e⟩
 |int i=>
  obtain⟨t,rfl⟩:=r;cases(show T="int" from ty);exact⟨typeIs_int s i t,λ_ e=>nomatch e⟩
 |ref p=>
  cases r;rcases ty with⟨rfl,xs,hq⟩|⟨rfl,o,hk,hc,hd⟩|⟨rfl,hk⟩|⟨rfl,S,n,hk⟩
  .obtain⟨its,_,pl,_⟩:=I.list hq;refine⟨pl.isList.typeIs,λa e=>?_⟩;cases e;obtain⟨o,n,e,c,hd,_⟩:=pl;exact⟨o,e,hd⟩
  .refine⟨⟨o,I.bg p o hk,hc⟩,λa e=>?_⟩;cases e;exact⟨o,I.bg _ o hk,hd⟩
  .have z:∃ o,s.heap.get? p=some o/\o.ExactDict:=by
    rcases hk with⟨kvs,hk⟩|⟨kvs,hk⟩
    .obtain⟨_,_,_,_,o,_,_,e,ex,_⟩:=I.hok p _ hk;exact⟨o,e,ex⟩
    .obtain⟨_,_,_,_,o,_,_,e,ex,_⟩:=I.hok p _ hk;exact⟨o,e,ex⟩
   obtain⟨o,e,ex⟩:=z;refine⟨⟨o,e,ex.1⟩,λa e2=>?_⟩;cases e2;exact⟨o,e,ex.2.1⟩
  .obtain⟨o,_,_,_,e,ex,_⟩:=I.hok p _ hk;refine⟨⟨o,e,ex.1⟩,λa e2=>?_⟩;cases e2;exact⟨o,e,ex.2.1⟩
 |_=>exact False.elim ty
abbrev E5 (K:W.Frag)(T:String)(r:V->List V->Hp->VK->Prop)(to:TE):TE:=λU H Q=>to U H λx H1=>EU K T x H1/\r x [] H1 Q
abbrev Ga (K:W.Frag)(T:String)(r:V->List V->Hp->VK->Prop)(to:TE)(t:TA):TE:=λU H Q=>to U H λx H1=>EU K T x H1/\t U H1 λxs H2=>r x xs H2 Q
variable {o e:Expr}{es:List Expr}{to:TE}{t:TA}{name:Str}{apos cpos:Pos}{T id:String}{r:V->List V->Hp->VK->Prop}
def AO (pa:PlainAttrs T)(slot:Slot T name id)(hty:typeOf (.builtin id)=pure (.type "method_descriptor")) (hm:Eh X id r) (ho:PE X o to)
  (hbase:attributeBase o name X.env (eval o X.env)=eval o X.env:=by rfl) (hline:(apos.endLine ==cpos.line)=true:=by rfl):PE X (.Call (.Attribute o name apos) [] [] cpos) (E5 X.K T r to):=by
 intro Y s U H Q I h;refine wpAny_Call_method0_late hbase hline (ar (ho Y s U H _ I h) λv s1 ⟨x,H1,I1,r1,ty,q1⟩=>?_);obtain⟨h1,h2⟩:=vC I1 r1 ty;exact⟨T,id,pa,slot,hty,h1,h2,Calls.callWith_builtin rfl (PySem.evalArgs_none (hm Y s1 U H1 x [] v [] Q I1 r1 .nil q1))⟩
def Cy (pa:PlainAttrs T)(slot:Slot T name id)(hty:typeOf (.builtin id)=pure (.type "method_descriptor")) (hm:Eh X id r) (ho:PE X o to) (ha:PA X (e::es) t)
  (hbase:attributeBase o name X.env (eval o X.env)=eval o X.env:=by rfl)
  (hfew:((backTo cpos (bm (e::es) X.env)).all (λx=>!x.1)&&(backToKw cpos (keywordEach [] X.env)).all (λx=>x.1.isSome)
   &&decide ((e::es).length+([]:List Keyword).length+(if([]:List Keyword).isEmpty then 0 else 1)<30))=true:=by rfl)
  (hline:(apos.endLine ==cpos.line)=true:=by rfl) (hs:bm (e::es) X.env=(false,eval e X.env)::bm es X.env:=by rfl) (hplain:(backTo cpos (bm es X.env)).any (·.1)=false:=by rfl):
  PE X (.Call (.Attribute o name apos) (e::es) [] cpos) (Ga X.K T r to t):=by
 intro Y s U H Q I h;refine wpAny_Call_method_late hbase hfew hline rfl (ar (ho Y s U H _ I h) λv s1 ⟨x,H1,I1,r1,ty,q1⟩=>?_);obtain⟨h1,h2⟩:=vC I1 r1 ty;refine⟨T,id,pa,slot,hty,h1,h2,?_⟩;have hA:=ha cpos Y s1 U H1 _ I1 q1;rw[hs]at hA⊢;refine Calls.callWith_builtin (by show(false||(backTo cpos (bm es X.env)).any (·.1))=false;rw[hplain]<;>rfl) (Calls.evalArgs_plain ?_);exact ar hA λus s2 ⟨vs,H2,I2,r2,q2⟩=>hm Y s2 U H2 x vs v us Q I2 r1 r2 q2
/- xs.append(e),list.index on a module's tuple .. are Eh facts of 06m -/
end
abbrev Fb (X:Cx)(id:String)(r:V->List V->Hp->VK->Prop):Prop:=
 ∀ (Y:GD) (s:Shared) (U:St) (H:Hp) (x:V) (xs:List V) (v:Value) (us:List Value) (Q:VK),Inv X Y U H s->RelV x v->Vals xs us->r x xs H Q->
  wpAny (model X.prog X.w) X.A (call (.builtin id) (v::us)) (EP X Y U Q) X.xe s
def Vals.one:∀ {x:V}{us:List Value},Vals [x] us->∃ u,us=[u]/\RelV x u
 |_,_,.cons r .nil=>⟨_,rfl,r⟩
def Vals.zero:∀ {us:List Value},Vals [] us->us=[]
 |_,.nil=>rfl
variable {us:List Value}
def Vals.reverse {xs:List V}(h:Vals xs us):Vals xs.reverse us.reverse:=by
 induction h with
 |nil=>exact .nil
 |cons r t ih=>rw[List.reverse_cons,List.reverse_cons];exact Vals.append ih (.cons r .nil)
def Vals.rep {xs:List V}(h:Vals xs us):∀ k:Nat,Vals (ss k xs).flatten (ss k us).flatten
 |0=>.nil
 |k+1=>by
  rw[replicate_succ,replicate_succ,flatten_cons,flatten_cons];exact Vals.append h (Vals.rep h k)
def foldl_rep (its:List Value):∀ (k:Nat) (acc:List Value),
  List.foldl (λx1 x2=>x1++x2) acc.toArray (ss k its.toArray)=(acc++(ss k its).flatten).toArray
 |0,acc=>by simp
 |k+1,acc=>by
  have e:acc.toArray++its.toArray=(acc++its).toArray:=by simp
  have e2:(acc++its)++(ss k its).flatten=acc++(ss (k+1) its).flatten:=by
   rw[replicate_succ,flatten_cons,jp]
  rw[<-e2,<-foldl_rep its k (acc++its),<-e,replicate_succ,foldl_cons]
section
variable {X:Cx}{Y:GD}{U:St}{H:Hp}{s:Shared}{l b:Addr}{xs ys zs:List V}
def Inv.A8 {its its':List Value}{f:Array Value->Array Value}{t':Nat}(I:Inv X Y U H s)(hH:H l=some (.lst xs))
  (e:s.heap.get? l=some { cls:=.type "list",data:=.seq its.toArray n }) (hf:f its.toArray=its'.toArray) (hv:Vals ys its') (hz:ys.length<=bn):
  Inv X Y U (upd H l (.lst ys)) { s with heap:=s.heap.update l (Obj.mapSeq f),toks:=t' }:=by
 have q:=PySem.IsL.update e f;rw[hf]at q;refine I.write (x:=l) (e:=l) (by rw[hH];exact trivial) (.inl rfl) (λb' u hb hu=>(Heap.get?_update_other s.heap (Obj.mapSeq f) (Ne.symm hb)).trans hu) ⟨_,q⟩ ?_;exact⟨hz,its',_,hv,q⟩
def Inv.Cq {its:List Value}{t':Nat}(I:Inv X Y U H s)(hv:Vals ys its)(hz:ys.length<=bn):
  Inv X Y U (upd H s.heap.objs.size (.lst ys)) { s with heap:=s.heap.push { cls:=.type "list",data:=.seq its.toArray },toks:=t' }:=
 I.laid (λ_ _ q=>sK _ q) (pi _) ⟨hz,its,0,hv,ul _ rfl⟩
def Inv.fresh (I:Inv X Y U H s):H s.heap.objs.size=none:=I.hok.fresh (pi _)
def Inv.lH (I:Inv X Y U H s)(hH:H l=some (.lst xs)):xs.length<=bn/\∃ (its:List Value) (n:Nat),Vals xs its/\xs.length=its.length/\s.heap.get? l=some { cls:=.type "list",data:=.seq its.toArray n }:=by
 obtain⟨z,its,n,r,e⟩:=I.hok l _ hH;exact⟨z,its,n,r,r.length,e⟩
def lr (h:n<=bn):Builtin.List.listTooLong n=false:=by
 unfold Builtin.List.listTooLong;exact decide_eq_false nofun
end
section
variable {X:Cx}
abbrev xY:V->List V->Hp->VK->Prop:=λx vs H Q=>∃ l xs y,x=.ref l/\vs=[y]/\H l=some (.lst xs)/\xs.length<bn/\Q .non (upd H l (.lst (xs++[y])))
def fQ:Fb X "list.append" xY:=by
 intro Y s U H x vs v us Q I rx rv h;obtain⟨l,xs,y,rfl,rfl,hH,hz,q⟩:=h;cases rx;obtain⟨u,rfl,ru⟩:=rv.one;obtain⟨z,its,n,r,hl,e⟩:=I.lH hH;refine call_meets F.slot_list_append ⟨_,e,rfl⟩ F.entry_list_append (F.args_list_append_2 _ _) (PySem.list_append l its.toArray n u (by rw[ge];omega)) ⟨e,?_⟩;refine⟨.non,_,I.A8 (its':=its++[u]) hH e (by simp) (r.append (.cons ru .nil)) ?_,rfl,q⟩;rw[ci,f8]
 omega
abbrev wq:V->List V->Hp->VK->Prop:=λx vs H Q=>∃ l b xs zs,x=.ref l/\vs=[.ref b]/\H l=some (.lst xs)/\H b=some (.lst zs)/\xs.length+zs.length<=bn/\Q .non (upd H l (.lst (xs++zs)))
def qI:Fb X "list.extend" wq:=by
 intro Y s U H x vs v us Q I rx rv h;obtain⟨l,b,xs,zs,rfl,rfl,hH,hB,hz,q⟩:=h;cases rx;obtain⟨u,rfl,ru⟩:=rv.one;cases ru;obtain⟨z,its,n,r,hl,e⟩:=I.lH hH;obtain⟨z2,iJ,n2,r2,hl2,e2⟩:=I.lH hB;have hsz:its.toArray.size+iJ.toArray.size<=bn:=by rw[ge,ge];omega
 have hlong:¬ (!its.toArray.isEmpty&&Builtin.List.listTooLong (its.toArray.size+iJ.toArray.size))=true:=by
  rw[lr hsz,Bool.and_false];exact Bool.false_ne_true
 refine call_meets F.slot_list_extend ⟨_,e,rfl⟩ F.entry_list_extend (F.args_list_extend_2 _ _)
  (AutoSeq1.list_extend_list_list_0 l its.toArray n b iJ.toArray n2 hlong (by rw[ge];omega) nofun) ⟨e,e2,?_⟩
 refine⟨.non,_,I.A8 (its':=its++iJ) hH e (by simp) (r.append r2) ?_,rfl,q⟩;rw[ci]
 omega
abbrev Ft:R2:=λx y H Q=>∃ l b xs zs,x=.ref l/\y=.ref b/\H l=some (.lst xs)/\H b=some (.lst zs)/\xs.length+zs.length<=bn/\∀ p,H p=none->Q (.ref p) (upd H p (.lst (xs++zs)))
def Bg:bY X (binaryOp .Add) Ft:=by
 intro Y s U H x y v u Q I rx ry h;obtain⟨l,b,xs,zs,rfl,rfl,hH,hB,hz,q⟩:=h;cases rx;cases ry;obtain⟨z,its,n,r,hl,e⟩:=I.lH hH;obtain⟨z2,iJ,n2,r2,hl2,e2⟩:=I.lH hB;refine PySem.P.add_list e e2 ?_ (by rw[ge,ge];omega);have ea:its.toArray++iJ.toArray=(its++iJ).toArray:=by simp
 rw[ea];exact⟨.ref _,_,I.Cq (t':=s.toks) (r.append r2) (by rw[ci];omega),rfl,q _ I.fresh⟩
abbrev Fq:R2:=λx y H Q=>∃ l k xs,x=.ref l/\y=.int k/\H l=some (.lst xs)/\ -(2 ^ 63)<=k/\k<2 ^ 63/\xs.length*k.toNat<=bn/\
 ∀ p,H p=none->Q (.ref p) (upd H p (.lst (ss k.toNat xs).flatten))
def len_rep (xs:List α)(k:Nat):(ss k xs).flatten.length=k*xs.length:=by
 induction k with
 |zero=>simp
 |succ k ih=>rw[replicate_succ,flatten_cons,ci,ih,Nat.succ_mul,Nat.add_comm]
def A3:bY X (binaryOp .Mult) Fq:=by
 intro Y s U H x y v u Q I rx ry h;obtain⟨l,k,xs,rfl,rfl,hH,h1,h2,hz,q⟩:=h;cases rx;obtain⟨t,rfl⟩:=ry;obtain⟨z,its,n,r,hl,e⟩:=I.lH hH;have hlen:its.toArray.size*k.toNat<=bn:=by rw[ge,<-hl];exact hz
 have hcap:¬ its.toArray.size*k.toNat>(2 ^ 63-1) / 8:=by
  have:(bn:Nat)<=(2 ^ 63-1) / 8:=by decide
  omega
 have hfit:¬ (!Builtin.List.listFitsIndex k)=true:=by
  rw[fitsIndex_both h1 h2];exact Bool.false_ne_true
 have hlong:¬ Builtin.List.listTooLong (its.toArray.size*k.toNat)=true:=by
  rw[lr hlen];exact Bool.false_ne_true
 have hnew:List.foldl (λx1 x2=>x1++x2) #[] (ss (if its.toArray.isEmpty=true then 0 else k.toNat) its.toArray)=(ss k.toNat its).flatten.toArray:=by
  have f0:∀ m:Nat,List.foldl (λx1 x2=>x1++x2) #[] (ss m its.toArray)=(ss m its).flatten.toArray:=λm=>by
   have:=foldl_rep its m [];rw[nil_append]at this;exact this
  rw[f0];cases its with
  |nil=>simp
  |cons a r'=>rw[if_neg (by simp)]
 refine wpAny_binaryOp_repeat_ref (T:="list") (U:="int") (by decide) ⟨_,e,rfl⟩ (λs'=>typeIs_int s' k t) noFill_list_mul F.fills_int_mul F.slot_int_rmul repeat_list F.slot_int_index.lookup
  (call_meets F.slot_int_rmul (typeIs_int s k t) F.entry_int_rmul (F.args_int_rmul_2 _ _) (int___rmul___int_list k t l its.toArray n)
   ⟨e,rfl,⟨_,e,rfl⟩,call_meets F.slot_list_mul ⟨_,e,rfl⟩ F.entry_list_mul (F.args_list_mul_2 _ _) (AutoListH.list___mul___list_int_3 l its.toArray n k t hfit hcap hlong) ⟨e,?_⟩⟩)
 rw[hnew];exact⟨.ref _,_,I.Cq (t':=s.toks) (r.rep k.toNat) (by rw[len_rep,Nat.mul_comm];exact hz),rfl,q _ I.fresh⟩
end
section
variable {prog:Program}{w:World}{A:Around}{E:GC}{s:Shared}
set_option maxRecDepth 100000 in
end
section
variable {X:Cx}
end
variable {o:Option V}
section
variable {κ:Type} [DecidableEq κ]
abbrev gB (kvs:List (κ×V))(k:κ):Option V:=(kvs.find? λkv=>decide (kv.1=k)).map (·.2)
abbrev putK (kvs:List (κ×V))(k:κ)(v:V):List (κ×V):=
 if(kvs.any λkv=>decide (kv.1=k))=true then kvs.map (λkv=>if kv.1=k then(kv.1,v) else kv) else kvs++[(k,v)]
def hE {p:κ×V}{r:List (κ×V)}{k:κ}(e:p.1=k):gB (p::r) k=some p.2:=by simp[gB,find?_cons,e]
def hX {p:κ×V}{r:List (κ×V)}{k:κ}(e:¬ p.1=k):gB (p::r) k=gB r k:=by simp[gB,find?_cons,e]
def lI (k:κ):∀ kvs:List (κ×V),(kvs.any λkv=>decide (kv.1=k))=(gB kvs k).isSome
 | []=>rfl
 |p::r=>by
  rw[any_cons]
  by_cases e:p.1=k
  .simp only[hE e,decide_eq_true e,Bool.true_or,Option.isSome_some]
  .rw[hX e,decide_eq_false e,Bool.false_or];exact lI k r
def dr (kvs:List (κ×V))(k:κ)(v:V):(putK kvs k v).length<=kvs.length+1:=by
 unfold putK
 split
 .rw[ce];omega
 .rw[ci,length_cons,length_nil];omega
def cA.rN {u:Option Value}(r:cA o u):o.isSome=u.isSome:=by
 cases o with
 |none=>cases u with
  |none=>rfl
  |some _=>exact(show False from r).elim
 |some _=>cases u with
  |none=>exact(show False from r).elim
  |some _=>rfl
def KV.val {kvs:List (κ×V)}{vs:List (κ×Value)}(r:KV kvs vs)(k:κ):cA (gB kvs k) (valueAt vs k):=by
 unfold KV at r
 induction r with
 |nil=>exact True.intro
 | @cons p q ps qs h t ih=>
  obtain⟨h1,h2⟩:=h
  by_cases e:p.1=k
  .have e':q.1=k:=h1.symm.trans e;have b:valueAt (q::qs) k=some q.2:=by simp[valueAt,find?_cons,e']
   rw[hE e,b];exact h2
  .have e':¬ q.1=k:=λz=>e (h1.trans z)
   have b:valueAt (q::qs) k=valueAt qs k:=by simp[valueAt,find?_cons,e']
   rw[hX e,b];exact ih
def KV.any {kvs:List (κ×V)}{vs:List (κ×Value)}(r:KV kvs vs)(k:κ):(kvs.any λkv=>decide (kv.1=k))=vs.any λkv=>decide (kv.1=k):=by
 unfold KV at r
 induction r with
 |nil=>rfl
 |cons h t ih=>rw[any_cons,any_cons,ih,h.1]
def KV.AL {kvs:List (κ×V)}{vs:List (κ×Value)}(r:KV kvs vs)(k:κ)(ry:RelV y u):
  KV (kvs.map λkv=>if kv.1=k then(kv.1,y) else kv) (vs.map λkv=>if kv.1=k then(kv.1,u) else kv):=by
 unfold KV at r⊢
 induction r with
 |nil=>exact .nil
 | @cons p q ps qs h t ih=>
  rw[map_cons,map_cons];refine .cons ?_ ih;obtain⟨h1,h2⟩:=h
  by_cases e:p.1=k
  .rw[if_pos e,if_pos (h1.symm.trans e)];exact⟨h1,ry⟩
  .rw[if_neg e,if_neg (λz=>e (h1.trans z))];exact⟨h1,h2⟩
def KV.put {kvs:List (κ×V)}{vs:List (κ×Value)}(r:KV kvs vs)(k:κ)(ry:RelV y u):KV (putK kvs k y) (stored vs k u):=by
 unfold putK stored;rw[r.any k]
 by_cases e:(vs.any λkv=>decide (kv.1=k))=true
 .rw[if_pos e,if_pos e];exact r.AL k ry
 .rw[if_neg e,if_neg e];exact Paired.snoc r ⟨rfl,ry⟩
def KV.length {kvs:List (κ×V)}{vs:List (κ×Value)}(r:KV kvs vs):kvs.length=vs.length:=Paired.length r
end
variable {P:Program}{w:World}
def lX {k:Key}(r:RelV (kV k) u):(av P w).is k u=true:=by
 cases k with
 |inl i=>obtain⟨t,e⟩:=(show ∃ t,u=Value.int i t from r);subst e;exact mX P w i t
 |inr x=>obtain⟨t,e⟩:=(show ∃ t,u=Value.str x t from r);subst e;exact lD P w x t
def jl {P:Program}{w:World}:∀ {ks:List Key}{us:List Value},Vals (ks.map kV) us->ItemsAre (av P w) ks us
 | [],_,r=>by rw[List.map_nil]at r;cases r;exact .nil
 |k::ks,_,r=>by
  rw[map_cons]at r;cases r with
  |cons h t=>exact .cons (lX h) (jl t)
@[reducible]def KT (H:Hp):List (List Key×V)->List (List Key×Addr×Value)->Prop:=Paired λp q=>p.1=q.1/\H q.2.1=some (.tup (p.1.map kV))/\RelV p.2 q.2.2
variable {xs:List (List Key×Addr×Value)}{kvs:List (List Key×V)}
def KT.val (r:KT H kvs xs)(k:List Key):cA (gB kvs k) ((atKey xs k).map (·.2)):=by
 induction r with
 |nil=>exact True.intro
 | @cons p q ps qs h t ih=>
  obtain⟨h1,_,h2⟩:=h
  by_cases e:p.1=k
  .have e':q.1=k:=h1.symm.trans e;have b:atKey (q::qs) k=some q.2:=by simp[atKey,find?_cons,e']
   rw[hE e,b];exact h2
  .have e':¬ q.1=k:=λz=>e (h1.trans z)
   have b:atKey (q::qs) k=atKey qs k:=by simp[atKey,find?_cons,e']
   rw[hX e,b];exact ih
def KT.AL (r:KT H kvs xs)(k:List Key)(ry:RelV y u):
  KT H (kvs.map λkv=>if kv.1=k then(kv.1,y) else kv) (xs.map (putAt k u)):=by
 induction r with
 |nil=>exact .nil
 | @cons p q ps qs h t ih=>
  rw[map_cons,map_cons];refine .cons ?_ ih;obtain⟨h1,h2,h3⟩:=h;unfold putAt
  by_cases e:p.1=k
  .rw[if_pos e,if_pos (h1.symm.trans e)];exact⟨h1,h2,ry⟩
  .rw[if_neg e,if_neg (λz=>e (h1.trans z))];exact⟨h1,h2,h3⟩
def KT.put (r:KT H kvs xs)(k:List Key){b:Addr}(hb:H b=some (.tup (k.map kV)))(ry:RelV y u):
  KT H (putK kvs k y) (storedH xs k b u):=by
 have e:(kvs.any λkv=>decide (kv.1=k))=(atKey xs k).isSome:=by
  rw[lI,(r.val k).rN,Option.isSome_map]
 unfold putK storedH;rw[e]
 by_cases q:(atKey xs k).isSome=true
 .rw[if_pos q,if_pos q];exact r.AL k ry
 .rw[if_neg q,if_neg q];exact Paired.snoc r ⟨rfl,hb,ry⟩
variable {H':Hp}
def KT.keeps (r:KT H kvs xs)(ht:∀ b ys,H b=some (.tup ys)->H' b=some (.tup ys)):KT H' kvs xs:=
 Paired.Av r λ_ _ z=>⟨z.1,ht _ _ z.2.1,z.2.2⟩
section
variable {P:Program}{w:World}{H:Hp}{h:Heap}{a:Addr}
def zr {u:HO}(ok:eD P w H h)(e:Rd H a u):ak P w H h a u:=e.ok ok
def hJ {kvs:List (Key×V)}(ok:eD P w H h)(e:Rd H a (.dK kvs)):kvs.length<=bn/\(a ==sysModules)=false/\∃ vs,KV kvs vs/\h.DictOf (av P w) a vs:=
 show ak P w H h a (.dK kvs) from zr ok e
def zA {kvs:List (Key×V)}(ok:eD P w H h)(e:H a=some (.dK kvs)):kvs.length<=bn/\(a ==sysModules)=false/\∃ vs,KV kvs vs/\h.DictOf (av P w) a vs:=hJ ok (.inl e)
def n8 {ks:List Key}(ok:eD P w H h)(e:H a=some (.tup (ks.map kV))):(tupleKind (av P w)).is h ks a:=by
 obtain⟨_,its,r,o,h1,h2,n,h3⟩:=(show ak P w H h a (.tup (ks.map kV)) from ok a _ e);exact⟨o,its.toArray,n,h1,h2,h3,by simpa using jl r⟩
def uX (ok:eD P w H h)(e:Rd H a (.dT kvs)):kvs.length<=bn/\(a ==sysModules)=false/\
  ∃ xs,KT H kvs xs/\h.DictOfH (tupleKind (av P w)) a xs:=by
 obtain⟨z,y,xs,r,o,es,ep,h1,h2,h3,h4,h5⟩:=(show ak P w H h a (.dT kvs) from zr ok e);refine⟨z,y,xs,r,o,es,ep,h1,h2,h3,h4,λx hx=>?_,h5⟩;have all:∀ {l:List (List Key×V)}{m:List (List Key×Addr×Value)},KT H l m->∀ x ∈ m,(tupleKind (av P w)).is h x.1 x.2.1:=by
  intro l m q
  induction q with
  |nil=>intro x hx;exact nomatch hx
  | @cons p q ps qs hq t ih=>
   intro x hx;rcases lv.mp hx with e|hx
   .subst e;exact n8 ok (by rw[<-hq.1];exact hq.2.1)
   .exact ih x hx
 exact all r x hx
def Dj (ok:eD P w H h)(e:H a=some (.dT kvs)):kvs.length<=bn/\(a ==sysModules)=false/\
  ∃ xs,KT H kvs xs/\h.DictOfH (tupleKind (av P w)) a xs:=uX ok (.inl e)
end
abbrev As (H:Hp)(a:Addr)(y:V)(r:Option V):Prop:=
 (∃ kvs k,Rd H a (.dK kvs)/\y=kV k/\r=gB kvs k)\/∃ kvs k b,Rd H a (.dT kvs)/\y=.ref b/\H b=some (.tup (k.map kV))/\r=gB kvs k
abbrev DS (H:Hp)(a:Addr)(y v:V)(H':Hp):Prop:=
 (∃ kvs k,H a=some (.dK kvs)/\y=kV k/\kvs.length<bn/\H'=upd H a (.dK (putK kvs k v)))\/
 ∃ kvs k b,H a=some (.dT kvs)/\y=.ref b/\H b=some (.tup (k.map kV))/\kvs.length<bn/\H'=upd H a (.dT (putK kvs k v))
section
variable {X:Cx}{Y:GD}{U:St}{H:Hp}{s:Shared}{a:Addr}{y v:V}{u r:Value}{o:Option V}{A:Around}{E:GC}
def Inv.big (I:Inv X Y U H s):sysModules<s.heap.objs.size:=by
 have h:mainGlobals<s.heap.objs.size:=(I.mod.glob.keeps I.bk).lt;exact Nat.lt_trans (by decide) h
def rS {Q:GC}(hu:A.units+1<cLine)(I:Inv X Y U H s)(g:As H a y (some v))(ry:RelV y u)(h:∀ w' s',Inv X Y U H s'->RelV v w'->Q w' s'):
  wpAny (model X.prog X.w) A (getItem (.ref a) u) Q E s:=by
 rcases g with⟨kvs,k,e,ey,l⟩|⟨kvs,k,b,e,ey,eb,l⟩
 .subst ey;obtain⟨z,hd,vs,rel,dd⟩:=hJ I.hok e;obtain⟨w',hw,rw'⟩:=cA.some_of (v:=v) (o:=valueAt vs k) (by rw[l];exact rel.val k);exact wpAny_getItem_of (lX ry) dd.mapOf hw (h w' _ (I.tok _) rw')
 .subst ey;cases(show u=Value.ref b from ry);obtain⟨z,hd,xs,rel,dd⟩:=uX I.hok e;obtain⟨w',hw,rw'⟩:=cA.some_of (v:=v) (o:=(atKey xs k).map (·.2)) (by rw[l];exact rel.val k);obtain⟨p,hp,hp2⟩:=mo.mp hw;refine wpAny_getItem_heap (tupleKind_room_in1 hu) (n8 I.hok eb) dd hp ?_;rw[hp2];exact h w' _ (I.tok _) rw'
def kF {h':Heap}{t':Nat}{ob:HO}(I:Inv X Y U H s)(mu:B7 (H a))(hs:Heap.SameBut a s.heap h')(he:∃ q,h'.get? a=some q) (new:ak X.prog X.w (upd H a ob) h' a ob):
  Inv X Y U (upd H a ob) { s with heap:=h',toks:=t' }:=
 I.write (x:=a) (e:=a) mu (.inl rfl) (λb q hb z=>(hs.2 b hb).trans z) he new
def nW {h':Heap}{kvs:List (Key×V)}{vs:List (Key×Value)}(z:kvs.length<=bn)(hd:(a ==sysModules)=false)(rel:KV kvs vs)(dd:h'.DictOf (av P w) a vs):
  ak P w H' h' a (.dK kvs):=⟨z,hd,vs,rel,dd⟩
def qJ {Q:GB}(hu:A.units+1<cLine)(I:Inv X Y U H s)(g:DS H a y v H')(ry:RelV y u)(rv:RelV v r)(h:∀ s',Inv X Y U H' s'->Q () s'):
  wpAny (model X.prog X.w) A (setItem (.ref a) u r) Q E s:=by
 rcases g with⟨kvs,k,e,ey,l,eH⟩|⟨kvs,k,b,e,ey,eb,l,eH⟩
 .subst ey eH;obtain⟨z,hd,vs,rel,dd⟩:=zA I.hok e;have hz:vs.length<=bn:=by rw[<-rel.length];exact z
  have hl:(putK kvs k v).length<=bn:=by have:=dr kvs k v;omega
  refine wpAny_setItem_pairs (hsz:=hz) (lX ry) dd λh' dd' hs=>h _ ?_
  have he:∃ q,h'.get? a=some q:=let⟨q,_,_,hq,_⟩:=dd';⟨q,hq⟩;exact kF I (by rw[e];exact True.intro) hs he (nW hl hd (rel.put k rv) dd')
 .subst ey eH;cases(show u=Value.ref b from ry);obtain⟨z,hd,xs,rel,dd⟩:=Dj I.hok e;have hz:xs.length<=bn:=by rw[<-Paired.length rel];exact z
  have hl:(putK kvs k v).length<=bn:=by have:=dr kvs k v;omega
  refine wpAny_setItem_heap (hsz:=hz) (tupleKind_room_in1 hu) (n8 I.hok eb) dd λh' dd' hs=>h _ ?_
  obtain⟨q,es,ep,hq,h2,h3,h4,_,h5⟩:=dd';refine kF I (by rw[e];exact True.intro) hs ⟨q,hq⟩ ⟨hl,hd,_,(rel.put k eb rv).keeps λc ys ec=>?_,q,es,ep,hq,h2,h3,h4,h5⟩;rw[af (CJ ec e (λz=>nomatch z))];exact ec
end
section
variable {X:Cx}{Y:GD}{U:St}{H:Hp}{s:Shared}{a:Addr}{kvs:List (Key×V)}{k:Key}{u:Value}{A:Around}{E:GC}
end
def l8 {X:Cx}{a:Addr}(I:Inv X Y U H s)(g:As H a y o):s.TypeIs (.ref a) "dict":=by
 rcases g with⟨kvs,k,e,_,_⟩|⟨kvs,k,b,e,_,_,_⟩
 .obtain⟨_,_,vs,_,dd⟩:=hJ I.hok e;exact dd.typeIs
 .obtain⟨_,_,xs,_,dd⟩:=uX I.hok e;exact dd.typeIs
section
variable {X:Cx}{o i e value:Expr}{pos pos' tpos:Pos}{td ty tv:TE}
end
def l6 (h:Heap)(hb:sysModules<h.objs.size):ak P w H (h.push { cls:=.type "dict",data:=.dict #[] }) h.objs.size (.dK []):=
 ⟨Nat.zero_le _,beq_eq_false_iff_ne.mpr (Ne.symm (pc hb)),[],.nil,Heap.DictOf.new h⟩
abbrev zS:TE:=λ_ H Q=>∀ p,H p=none->Q (.ref p) (upd H p (.dK []))
section
variable {X:Cx}{pos:Pos}
def uh:PE X (.Dict [] [] pos) zS:=λY s U H Q I h=>
 wpAny_Dict_empty ⟨.ref s.heap.objs.size,_,I.laid (a:=s.heap.objs.size) (o:=.dK []) (t':=s.toks) (λ_ _ q=>sK _ q) (pi _) (l6 s.heap I.big),rfl,h _ (I.hok.fresh (pi _))⟩
end
section
variable {X:Cx}{Y:GD}{U:St}{H:Hp}{s:Shared}{a:Addr}{y d:V}{u r:Value}{o:Option V}{A:Around}{E:GC}
end
section
variable {X:Cx}{o e f:Expr}{apos cpos:Pos}{td ty tx:TE}
end
section
variable {X:Cx}{Y:GD}{U:St}{H:Hp}{s:Shared}{a:Addr}{kvs:List (Key×V)}{A:Around}{E:GC}
end
section
variable {X:Cx}{Y:GD}{U:St}{H:Hp}{s:Shared}{a:Addr}{y:V}{u:Value}{A:Around}{E:GC}
end
end L2
namespace Att
open PySem PySem.W PySem.Calls PyProof.Rows
variable {P:Params}
def gG {h:Heap}:∀ (ns:List Int) (vs:List Value),WellAll P h vs (ns.map WData.int)->IntsAre vs ns:=by
 intro ns
 induction ns with
 |nil=>
  intro vs w;rw[List.map_nil]at w;cases w;exact .nil
 |cons n ns ih=>
  intro vs w;rw[map_cons]at w;cases w with
  |cons a b=>
   cases a;exact .cons _ _ (ih _ b)
variable {l:OpenLaw}
def rp {n:Nat}(hn:l.most=some n){h:Heap}{args:List WData}{vals:List Value}
  (hpre:l.row.toRowW.claim.pre args=true) (hwl:WellAll P h vals args):
  ∃ a vs ns,vals=[Value.ref a]/\args=[WData.list (ns.map WData.int)]/\h.get? a=some { cls:=.type "list",data:=.seq vs.toArray }/\IntsAre vs ns/\ns.length<=n:=by
 have hsh:WShape.hasAll [] args [.list .int]=true:=(pre_splitW hpre).1;have hc:l.pre.holds [] { args:=args }=true:=(pre_splitW hpre).2;obtain⟨d,r,rfl,h1,h2⟩:=hasAllW_cons hsh;obtain rfl:=hasAllW_nil h2;obtain⟨xs,rfl,h3⟩:=hasW_list h1;obtain⟨ns,rfl⟩:=items_int h3;have hlen:ns.length<=n:=by
  unfold OpenLaw.pre at hc;have h4:(WTm.not (.lt (.lit (.int (n:Int))) (.len (.arg 0)))).holds [] { args:=[.list (ns.map .int)] }=true:=by
   have h4:=(holds_andW hc).1;rw[hn]at h4;exact h4
  have h5:=condW_of h4 (w_not (w_lt w_lit (w_len_list (w_arg rfl))));rw[ce]at h5;refine Nat.le_of_not_lt λq=>?_
  have q':(n:Int)<((ns.length:Nat):Int):=by omega
  first
   |(rw[decide_eq_true q']at h5;exact absurd h5 (by decide))
   |(simp at h5;omega)
 cases hwl with
 |cons w1 w2=>
  cases w2;cases w1 with
  |list ho hall=>exact⟨_,_,ns,rfl,rfl,ho,gG ns _ hall,hlen⟩
def rJ (l:OpenLaw)(args:List WData):l.row.toRowW.claim.post args (.bool true) args=true:=
 postW_of (r:=l.row.toRowW) (X:=(true ==true))
  (show WShape.has [] (.bool true) .bool=true by first|rfl|decide|simp[WShape.has,WShape.arms,WShape.armsAll])
  (show(WTm.eq .res (.lit (.bool true))).value [] { args:=args,res:=some (.bool true),after:=args }=some (.bool (true ==true)) from w_eq_bool (w_res rfl) w_lit) rfl
def mJ {n:Nat}{q:Program}{loose:List Str}{XP:(Str->Option Value)->Heap->Prop}{YP:World->Heap->Prop}{d:DefRec}
  (hn:l.most=some n) (hdf:d.params.defaults=[])
  (call:∀ (w:World) (s₀ s₁:Shared) (mg mb:GF) (fa:Addr) (o:Obj) (pm cd doc:Value) (a:Addr) (vs:List Value) (ns:List Int),
   Ground q loose [] XP w s₀ mg mb s₁.heap->YP w s₁.heap->
   s₁.heap.get? fa=some o->o.data=.func (docDef d.name d.params d.body d.scope pm cd doc)->s₁.heap.CodeRec cd d.name->mg d.name=some (.ref fa)->
   s₁.heap.get? a=some { cls:=.type "list",data:=.seq vs.toArray }->IntsAre vs ns->ns.length<=n->s₁.gens=#[]->
   codeAny (model l.prog w) callerA (.call (.ref fa) ⟨[.ref a],[]⟩) (λr s'=>r=.ok (.ret (.bool true))/\OldK s₁.heap s'.heap/\s'.os=s₁.os/\AllBare s'.gens) s₁):
  WalkO q loose XP YP l.row.toRowW d [] (λf vs=>PySem.call f vs):=by
 intro w s₀ s₁ mg mb G Y fa o pm cd doc dV kV ho hd hcd hD hmg hg args vals as hpre hlay hrd hwl hlo;obtain rfl:dV=.none:=Dflts.none hD hdf;obtain rfl:kV=.none:=Dflts.noKw hD;obtain⟨a,vs,ns,rfl,rfl,hobj,hints,hlen⟩:=rp hn hpre hwl;refine enter_call (codeAny_mono (call w s₀ s₁ mg mb fa o pm cd doc a vs ns G Y ho (fd_plain hd) hcd hmg hobj hints hlen hg) λr s' hq=>?_);obtain⟨rfl,h2,h3,h4⟩:=hq;exact⟨.inl ⟨.bool true,.bool true,[],rfl,λ_=>rfl,.bool true,rJ l _,λ_=>⟨List.Pairwise.nil,λ_ hm=>(nomatch hm)⟩⟩,h2,h3,h4⟩
section
variable {prog:Program}{w:World}{A:Around}{E:GC}{s:Shared}{K:Frag}
end
end Att
namespace L2
open PySem PySem.Spec PyProof.Rows
def jB:∀ {vs:List Value}{ns:List Int},IntsAre vs ns->Vals (ns.map V.int) vs
 |_,_,.nil=>.nil
 |_,_,.cons n t h=>.cons ⟨t,rfl⟩ (jB h)
abbrev BW (H:Hp):Prop:=∀ b,H b=none\/∃ o xs,H b=some (.fZ o (.lst xs))
def vg {P:Program}{w:World}{K:W.Frag}{mg mb:GF}{CX:qq}{k:Nat}{fa a:Addr}{fd:FuncData}{x:Str}{sp:Sp}{s₁:Shared}{vs:List Value}{ns:List Int}
  (KX:K.In s₁.heap) (hns:s₁.heap.Ns mainGlobals mg) (hb:s₁.heap.Ns builtinsNs mb) (hbb:∀ x:Str,x≠"__name__"->mb x=bootBuiltins x) (hlim:s₁.heap.NoLimit) (hg:s₁.gens=#[])
  (ha:s₁.heap.get? a=some { cls:=.type "list",data:=.seq vs.toArray }) (hi:IntsAre vs ns) (hl:ns.length<=bn) (hr:bb k callerA)
  (F:∀ base:Heap,K.In base->base.Ns mainGlobals mg->cE true P w K mg base CX k fa fd [x] sp) (hbind:∀ (s:Shared) (u:Value),BindsTo s fd ⟨[u],[]⟩ [(x,u)])
  (hsp:∀ H:Hp,BW H->aN K H a (ns.map V.int)->sp [.ref a] H (λv _=>v=.bl true) λ_ _=>False)
  (hCX:∀ H e s',CX [] H s₁ (λ_ _=>False) e s'->False):
  codeAny (model P w) callerA (.call (.ref fa) ⟨[.ref a],[]⟩) (λr s'=>r=.ok (.ret (.bool true))/\OldK s₁.heap s'.heap/\s'.os=s₁.os/\AllBare s'.gens) s₁:=by
 have rv:=jB hi;have lenV:=hi.length;have core:∀ H:Hp,BW H->aN K H a (ns.map V.int)->eD P w H s₁.heap->(∀ b,H b≠none->b=a)->(H a≠none->K.lookup a=none)->
   codeAny (model P w) callerA (.call (.ref fa) ⟨[.ref a],[]⟩) (λr s'=>r=.ok (.ret (.bool true))/\OldK s₁.heap s'.heap/\s'.os=s₁.os/\AllBare s'.gens) s₁:=by
  intro H hO hS hok hA hK;have base_of:∀ {b:Addr}{o:Obj},s₁.heap.get? b=some o->H b=none->(j6 s₁.heap H).get? b=some o:=λe n=>uT e n
  have noA:∀ {b:Addr}{o:Obj}{es:Array DictEntry}{ep:Nat},s₁.heap.get? b=some o->o.data=.dict es ep->H b=none:=λ{b o es ep} e d=>by
   cases q:H b with
   |none=>rfl
   |some u=>
    have e':b=a:=hA b (by rw[q];simp);subst e';rw[ha]at e;cases e;have d':Data.seq vs.toArray _=Data.dict es ep:=d;cases d'
  have nsK:∀ {b:Addr}{m:GF},s₁.heap.Ns b m->(j6 s₁.heap H).Ns b m:=λ{b m} ⟨o,es,ep,e,d,r⟩=>⟨o,es,ep,base_of e (noA e d),d,r⟩
  have hKb:K.In (j6 s₁.heap H):=λb o e=>base_of (KX b o e) (by
   cases q:H b with
   |none=>rfl
   |some u=>
    have e':b=a:=hA b (by rw[q];simp);subst e';rw[hK (by rw[q];simp)]at e;cases e)
  have hM:Mod K mg (j6 s₁.heap H):=⟨hKb,nsK hns,⟨mb,nsK hb,hbb⟩,let⟨mc,h1,h2⟩:=hlim;⟨mc,nsK h1,h2⟩⟩;have e0:nI P w K mg (j6 s₁.heap H) callerA [] s₁ H:=⟨rfl,hM,λb o e=>xf e,Nat.le_of_eq (rA _ _),trivial,λb hb=>absurd (show b ∈ ([]:List Addr) from hb) (by simp),hok,.of_eq hg⟩;refine codeAny_mono ((F _ hKb (nsK hns)).run callerA [] s₁ H ⟨[.ref a],[]⟩ [.ref a] [.ref a] _ _ hr rfl e0 (hbind s₁ (.ref a)) (.cons rfl .nil) (hsp H hO hS)) λr s' h=>?_
  cases r with
  |error e=>exact(hCX H e s' h).elim
  |ok fl=>
   cases fl with
   |next=>exact False.elim h
   |brk=>exact False.elim h
   |cont=>exact False.elim h
   |ret u=>
    obtain⟨v,H',os,bare,un,hok',r',q⟩:=h;have q':v=.bl true:=q;subst q';obtain rfl:u=Value.bool true:=r';refine⟨rfl,OldK.of_keep λb o e=>?_,os,bare⟩;cases q:H b with
    |none=>exact un.keep b o e q (by intro z;exact absurd (show b ∈ ([]:List Addr) from z) (by simp)) (by simp)
    |some u=>
     rcases hO b with z|⟨ob,xs,z⟩
     .rw[q]at z;cases z
     .have z2:=un.frzs b (.fZ ob _) True.intro z;obtain⟨e1,_⟩:=hok b _ z;obtain⟨e2,_⟩:=hok' b _ z2;rw[e]at e1;cases e1;exact e2
 cases hk:K.lookup a with
 |some o=>
  have e:=KX a o hk;rw[ha]at e;cases e;refine core (λ_=>none) (λ_=>.inl rfl) (.inr ⟨_,vs.toArray,_,hk,rfl,rfl,rfl,by rw[ge,lenV];exact hl,by simpa using rv⟩) (λb u z=>by have z':(none:Option HO)=some u:=z;cases z') (λb z=>absurd rfl z) λz=>absurd rfl z
 |none=>
  refine core (λb=>if b=a then some (.fZ { cls:=.type "list",data:=.seq vs.toArray } (.lst (ns.map V.int))) else none) (λb=>?_) (.inl (.inr ⟨{ cls:=.type "list",data:=.seq vs.toArray },if_pos rfl⟩)) (λb u z=>?_) (λb z=>?_) λ_=>hk
  .by_cases hb:b=a
   .exact .inr ⟨_,_,if_pos hb⟩
   .exact .inl (if_neg hb)
  .by_cases hb:b=a
   .have z':=(if_pos hb).symm.trans z;cases z';subst hb;exact⟨ha,by rw[ce];exact hl,vs,_,rv,ha⟩
   .have z':=(if_neg hb).symm.trans z;cases z'
  .by_cases hb:b=a
   .exact hb
   .exact absurd (if_neg hb) z
def wX {l:W.OpenLaw}{n k:Nat}{q:Program}{loose:List Str}{XP:(Str->Option Value)->Heap->Prop}{YP:World->Heap->Prop}{d:DefRec}{K:Params->W.Frag}{CX:World->qq}{sp:World->Sp}{x:Str}
  (hn:l.most=some n) (hn2:n<=bn) (hdf:d.params.defaults=[]) (hr:bb k callerA)
  (hY:∀ (w:World) (h:Heap),YP w h->(K w.params).In h)
  (F:∀ (w:World) (mg:GF) (fa:Addr) (h:Heap),(K w.params).In h->h.Ns mainGlobals mg->mg d.name=some (.ref fa)->
   ∃ fd:FuncData,(∀ (s:Shared) (u:Value),BindsTo s fd ⟨[u],[]⟩ [(x,u)])/\
    ∀ base:Heap,(K w.params).In base->base.Ns mainGlobals mg->cE true l.prog w (K w.params) mg base (CX w) k fa fd [x] (sp w))
  (hsp:∀ (w:World) (H:Hp) (a:Addr) (ns:List Int),ns.length<=n->BW H->aN (K w.params) H a (ns.map V.int)->sp w [.ref a] H (λv _=>v=.bl true) λ_ _=>False)
  (hCX:∀ (w:World) (H:Hp) (s:Shared) (e:Value) (s':Shared),CX w [] H s (λ_ _=>False) e s'->False):
  W.WalkO q loose XP YP l.row.toRowW d [] (λf vs=>PySem.call f vs):=by
 refine Att.mJ hn hdf λw s₀ s₁ mg mb fa o pm cd doc a vs ns G Y ho hd hcd hmg hobj hints hlen hg=>?_
 have KX:=hY w _ Y;obtain⟨fd,hb,hF⟩:=F w mg fa _ KX G.T.g hmg;exact vg KX G.T.g G.T.b G.T.builtins G.T.nolimit hg hobj hints (Nat.le_trans hlen hn2) hr hF hb (λH hO hS=>hsp w H a ns hlen hO hS) λH e s'=>hCX w H s₁ e s'
section
variable {P:Program}{w:World}{K:W.Frag}{mg:GF}{base:Heap}
end
def dZ {n:Nat}(h:n<=1000):n<bn:=Nat.lt_of_le_of_lt h (by decide)
section
variable {X:Cx}
end
end L2
namespace L2
open PySem PySem.Spec PySem.W PyProof.Rows PySem.Builtin PySem.Builtin.ObjectAttr
variable {rs:List Addr}
section
variable {prog:Program}{w:World}{A:Around}{E:GC}{s:Shared}{K:W.Frag}{x C:Addr}{ox od:Obj}{name:Str}{expr:Bool}{v:Value}{Q:GC}
def lV:builtinKind "BaseException.__getattribute__"=some .slot:=by decide+kernel
def jM:splitId "BaseException.__getattribute__"=some ("BaseException","__getattribute__"):=by decide+kernel
def yb (X:K.In s.heap)(I:W.InstAt s.heap x ox C (some od))(hga:W.findIn K (.ref C) "__getattribute__"=some (some (.builtin "BaseException.__getattribute__"))) (hgn:W.findIn K (.ref C) "__getattr__"=some none)
  (hb:W.mroIn K C (.type "BaseException")=some true) (hf:W.findObj K C (some od) name=some (.value v)) (hh:W.handedIn v=true) (h:Q v { s with toks:=s.toks+1 }):
  wpAny (model prog w) A (getAttr (.ref x) name expr) Q E s:=by
 obtain⟨hp,g,d,t,os⟩:=s;have L0:=I.type (M:=model prog w);have L1:=looks_findIn (M:=model prog w) X hga;have L2':=looks_findIn (M:=model prog w) X hgn;have L3:=looks_find (M:=model prog w) X I hf;have L4:Looks (model prog w) hp (isInstance (.ref x) (.type "BaseException")) true:=I.type.andThen (looks_mroIn X hb);unfold getAttr getAttrBy;refine ad (wpAny_mkText (bd (ad (L0.at (ad (L1.at ?_))))));have e1:(Value.builtin "BaseException.__getattribute__" ==Value.builtin "object.__getattribute__")=false:=by decide+kernel
 dsimp only;rw[e1,Bool.and_false];show wpAny _ _ (getAttrByItsOwn _ _ _ _ _ _) _ _ _;unfold getAttrByItsOwn hookBefore;refine ad (L2'.at ?_);refine ad (wpAny_attempt (bd ?_));have e2:(expr&&onTheHeap (Value.builtin "BaseException.__getattribute__"))=false:=by cases expr<;>rfl
 unfold callGetattribute;rw[e2];show wpAny _ _ (boundAndCalled _ _ _) _ _ _;unfold boundAndCalled;rw[PySem.F.attr_ValueError.ga.bind];refine ad (am (wpAny_call (codeAny_call_builtin PySem.F.attr_ValueError.ga.plain PySem.F.entry_bexc_ga ?_)));refine @check_slot (model prog w) _ _ _ "BaseException.__getattribute__" "BaseException" "__getattribute__" (.ref x) [.str name t] [] _ lV jM L4 (PySem.F.args_bexc_ga (.ref x) (.str name t)) ?_;unfold Builtin.«object.__getattribute__»;refine ad (am (ad (am (ad (L0.at (ad (L3.at ?_)))))));refine am ?_;show wpAny _ _ (handedOut v) _ _ _;rw[handedOut_of hh];exact am h
abbrev vi:Value->Bool
 | .ref _=>true
 |_=>false
abbrev bt:List Value:=[.type "ValueError",.type "Exception",.type "BaseException",.type "object"]
abbrev cT (l:List Value):Bool:=l.dropWhile vi ==bt
def cL:∀ {l:List Value},cT l=true->∃ rs:List Addr,l=rs.map Value.ref++bt
 | [],e=>by cases e
 |c::r,e=>by
  by_cases h:vi c=true
  .have e':cT r=true:=by
    unfold cT at e⊢;rw[List.dropWhile_cons_of_pos h]at e;exact e
   obtain⟨rs,q⟩:=cL e';cases c with
   |ref a=>exact⟨a::rs,by rw[q];rfl⟩
   |_=>cases h
  .unfold cT at e;rw[List.dropWhile_cons_of_neg h]at e;exact⟨[],beq_iff_eq.mp e⟩
def iU (self:Value):∀ rs:List Addr,refuseLoop self "__setattr__" (rs.map Value.ref++bt)=pure ()
 | []=>PySem.F.store_ValueError.passes self
 |a::r=>by rw[map_cons,List.cons_append,refuseLoop_ref];exact iU self r
structure b9 (K:W.Frag) (C:Addr):Prop where
 mt:W.typeIn K (.ref C)=some (.type "type")
 ov:(W.clsIn K C).any (λcd=>cT cd.mro)=true
 hd:W.hasDictIn K C=true
 ga:W.findIn K (.ref C) "__getattribute__"=some (some (.builtin "BaseException.__getattribute__"))
 gn:W.findIn K (.ref C) "__getattr__"=some none
 sa:W.findIn K (.ref C) "__setattr__"=some (some (.builtin "object.__setattr__"))
def b9.mro (c:b9 K C):∃ (cd:ClassData) (rs:List Addr),W.clsIn K C=some cd/\cd.mro=rs.map Value.ref++bt:=by
 obtain⟨cd,h1,h2⟩:=W.any_some c.ov;obtain⟨rs,h3⟩:=cL h2;exact⟨cd,rs,h1,h3⟩
def mV (h:bt.contains v=true):(rs.map Value.ref++bt).contains v=true:=by
 rw[List.contains_eq_mem,decide_eq_true_eq]at h⊢;exact ii _ h
def pU:(rs.map Value.ref++bt).isEmpty=false:=by cases rs<;>rfl
def b9.sub (c:b9 K C)(h:bt.contains v=true):W.mroIn K C v=some true:=by
 obtain⟨cd,rs,h1,h2⟩:=c.mro;unfold W.mroIn;rw[h1,Option.bind_some,h2,if_neg (by rw[pU];decide),mV h]
variable {R:Result->Shared->Prop}
def mY {tk:Tok}{odo:Option Obj}(X:K.In s.heap)(I:W.InstAt s.heap x ox C odo)(c:b9 K C)(ht:W.findIn K (.ref C) name=some none)
  (h:wpAny (model prog w) A.in1 (storeInOwnDict (.ref x) (.ref C) (.str name tk) name v false)
   (λfin s'=>match fin with| .done f=>R (.ok f) s'| .again c'=>c'.quiet=true/\codeAny (model prog w) A c' R s') (λe s'=>R (.error e) s') s):
  codeAny (model prog w) A (.call (.builtin "object.__setattr__") ⟨[.ref x,.str name tk,v],[]⟩) R s:=by
 have SF:=PySem.F.store_object;obtain⟨cd,rs,hc,hm⟩:=c.mro;have sub:Looks (model prog w) s.heap (isInstance (.ref x) (.type "object")) true:=I.type.andThen (looks_mroIn X (c.sub (by decide+kernel)));refine codeAny_call_builtin SF.slot.plain SF.entry (@check_slot (model prog w) _ _ s "object.__setattr__" "object" "__setattr__" (.ref x) [.str name tk,v] [] _ SF.kind SF.split sub (SF.args (.ref x) (.str name tk) v) ?_);have hl:Looks (model prog w) s.heap (mroOf (.ref C)) cd.mro:=(looks_clsIn X hc).andThen .now;rw[osa_eq,refuse_eq];refine ad (ad (I.type.here (ad (hl.here ?_))));rw[hm,iU];refine am (ad (I.type.here (ad ((looks_findIn X ht).here (ad (am ?_))))));exact h
end
variable {Q:GC}{u:Value}
section
variable {X:Cx}{Y:GD}{U:St}{H:Hp}{s:Shared}{a C dx:Addr}{fs:List (Str×V)}{f:Str}{v:V}{A:Around}{E:GC}{fr:Bool}
def sj {b:Bool}(I:Inv X Y U H s)(e:H a=some (.exc C (some dx) fs fr))(c:b9 X.K C)(n:dD X.K C f)(l:fs.lookup f=some v)
  (h:∀ u s',Inv X Y U H s'->RelV v u->Q u s'):wpAny (model X.prog X.w) A (getAttr (.ref a) f b) Q E s:=by
 obtain⟨⟨vs,ho,_⟩,z⟩:=I.hok a _ e;rcases z with⟨z,_⟩|⟨d,ed,_,_,_,mA,hn,r,_⟩
 .cases z
 cases ed;obtain⟨u,hu,ru⟩:=cA.some_of (v:=v) (o:=mA f) (by rw[<-l];exact r f);obtain⟨od,hod,hl⟩:=f9 hn;refine yb (ox:={ cls:=.ref C,dict:=some dx,data:=.fields vs }) (od:=od) I.bg ⟨ho,rfl,rfl,hod⟩ c.ga c.gn (c.sub (by decide+kernel)) (W.findObj_own c.hd n rfl (by rw[hl,hu])) (jr ru) (h u _ (I.tok _) ru)
def oq {y:V}{Q:GB}(I:Inv X Y U H s)(e:H a=some (.exc C (some dx) fs true))(c:b9 X.K C)(n:dD X.K C f)(hl:fs.length<1000)(ry:RelV y u)
  (h:∀ s',Inv X Y U (upd H a (.exc C (some dx) (b6 f y fs) true)) s'->Q () s'):wpAny (model X.prog X.w) A (setAttr (.ref a) f u) Q E s:=by
 obtain⟨⟨vs,ho,zz⟩,z⟩:=id (I.hok a _ e);rcases z with⟨z,_⟩|⟨d,ed,hown,_,hne,mA,hn,r,wi⟩
 .cases z
 cases ed;obtain⟨od,hod,hlk⟩:=f9 hn;have hz:(fs.map (·.1)).length<=bn:=by rw[ce,sizeLine_eq];omega
 have J:W.InstAt s.heap a { cls:=.ref C,dict:=some dx,data:=.fields vs } C (some od):=⟨ho,rfl,rfl,hod⟩;refine W.set_plain I.bg J c.sa (mY (s:={ s with toks:=s.toks+1 }) I.bg J c n ?_);obtain⟨cd,hc,hd'⟩:=W.any_some c.hd;refine ad (am (ad (ad (wpAny_loadPart ho (ad (W.Looks.here (s:={ s with toks:=s.toks+1 }) (W.looks_clsIn I.bg hc) ?_))))));rw[hd'];refine am (a:=some dx) (ad (am (ad ?_)));refine wpAny_nsSet1 (s:={ s with toks:=s.toks+1 }) hn λh' hn2 hs2=>?_
 obtain⟨oD,esD,epD,hoD,hdD,hcD⟩:=hn2.count (PySem.Within.cons f u wi);refine ad (wpAny_lookBehind hoD (by rw[hdD];exact pastItsLine_dict (Nat.le_trans hcD (by rw[length_cons];omega))) ?_);refine am (h _ ?_);refine I.write (x:=a) (e:=dx) (by rw[e];exact rfl) (.inr hown) (λb q hb z=>(hs2.2 b hb).trans z) ⟨oD,hoD⟩ ?_;refine⟨⟨vs,(hs2.2 _ (Ne.symm hne)).trans ho,zz⟩,.inr ⟨dx,rfl,by rw[af hne];exact hown,?_,hne,_,hn2,λg=>?_,λg hg=>?_⟩⟩
 .have:=dm f y fs;omega
 .show cA ((b6 f y fs).lookup g) (if g=f then some u else mA g);rw[dG]
  by_cases q:g=f
  .rw[if_pos q,if_pos q];exact ry
  .rw[if_neg q,if_neg q];exact r g
 .by_cases q:g=f
  .rw[q];exact(cG f y fs).1
  .refine(cG f y fs).2 g (wi g λz=>hg ?_);show(if g=f then some u else mA g)=none;rw[if_neg q];exact z
def og {y:V}{Q:GB}(I:Inv X Y U H s)(e:H a=some (.exc C none fs true))(c:b9 X.K C)(n:dD X.K C f)(ry:RelV y u)
  (h:∀ d s',H d=none->Inv X Y U (upd (upd H d (.own a)) a (.exc C (some d) [(f,y)] true)) s'->Q () s'):wpAny (model X.prog X.w) A (setAttr (.ref a) f u) Q E s:=by
 obtain⟨⟨vs,ho,zz⟩,z⟩:=id (I.hok a _ e);have hfs:fs=[]:=by
  rcases z with⟨_,z⟩|⟨d,ed,_⟩
  .exact z
  .cases ed
 subst hfs;have J:W.InstAt s.heap a { cls:=.ref C,dict:=none,data:=.fields vs } C none:=⟨ho,rfl,rfl,True.intro⟩;refine W.set_plain I.bg J c.sa (mY (s:={ s with toks:=s.toks+1 }) I.bg J c n ?_);obtain⟨cd,hc,hd'⟩:=W.any_some c.hd;refine ad (am (ad (ad (wpAny_loadPart ho (ad (W.Looks.here (s:={ s with toks:=s.toks+1 }) (W.looks_clsIn I.bg hc) ?_))))));rw[hd'];have hlt:=tz ho;have hxs:a≠s.heap.objs.size:=pc hlt;have ho1:(s.heap.push { cls:=.type "dict",data:=.dict #[] }).get? a=some { cls:=.ref C,dict:=none,data:=.fields vs }:=sK _ ho;refine ad (wpAny_alloc' ?_);refine ad (wpAny_update' ho1 ?_);refine am ?_;have hgd:((s.heap.push { cls:=.type "dict",data:=.dict #[] }).update a λo=>{ o with dict:=some s.heap.objs.size }).get? s.heap.objs.size=some { cls:=.type "dict",data:=.dict #[] }:=
  (Heap.get?_update_ne _ _ _ _ hxs.symm).trans (Heap.get?_push_at rfl rfl)
 have hga:((s.heap.push { cls:=.type "dict",data:=.dict #[] }).update a λo=>{ o with dict:=some s.heap.objs.size }).get? a=some { cls:=.ref C,dict:=some s.heap.objs.size,data:=.fields vs }:=
  Heap.get?_update_self _ ho1 rfl
 have hnd:((s.heap.push { cls:=.type "dict",data:=.dict #[] }).update a λo=>{ o with dict:=some s.heap.objs.size }).Ns s.heap.objs.size (λ_=>none):=
  ⟨_,#[],_,hgd,rfl,λe he=>absurd he (by simp),λ_=>rfl⟩
 show wpAny _ _ (storeInDict s.heap.objs.size (.str f _) f u) _ _ _;unfold storeInDict newKeyGuard;refine ad (am (ad (wpAny_nsSet1 (Heap.Ns1.of_empty hnd) λh' hn2 hs2=>?_)));obtain⟨oD,esD,epD,hoD,hdD,hcD⟩:=hn2.count (PySem.Within.cons f u PySem.Within.nil);refine ad (wpAny_lookBehind hoD (by rw[hdD];exact pastItsLine_dict (Nat.le_trans hcD (by rw[length_cons,length_nil,sizeLine_eq];omega))) ?_);have hd0:H s.heap.objs.size=none:=I.hok.fresh (pi _);refine am (h s.heap.objs.size _ hd0 ?_);have e':upd H s.heap.objs.size (.own a) a=some (.exc C none [] true):=by rw[af hxs];exact e
 have I1:Inv X Y U (upd H s.heap.objs.size (.own a)) { s with heap:=s.heap.push { cls:=.type "dict",data:=.dict #[] },toks:=s.toks+1 }:=
  I.laid (a:=s.heap.objs.size) (o:=.own a) (t':=s.toks+1) (λb u q=>sK _ q) (pi _) ⟨_,ul s.heap rfl⟩
 have I2:=I1.write (x:=a) (e:=a) (o:=.exc C (some s.heap.objs.size) [] true) (t':=s.toks+1) (h':=(s.heap.push { cls:=.type "dict",data:=.dict #[] }).update a λo=>{ o with dict:=some s.heap.objs.size })
  (by rw[e'];exact rfl) (.inl rfl) (λb q hb z=>(Heap.get?_update_ne _ _ _ _ hb).trans z) ⟨_,hga⟩
  ⟨⟨vs,hga,zz⟩,.inr ⟨_,rfl,by rw[af hxs.symm,aj],Nat.zero_le _,hxs.symm,_,Heap.Ns1.of_empty hnd,λ_=>True.intro,λy hy=>absurd rfl hy⟩⟩
 have ga':h'.get? a=some { cls:=.ref C,dict:=some s.heap.objs.size,data:=.fields vs }:=(hs2.2 a hxs).trans hga;have I3:=I2.write (x:=a) (e:=s.heap.objs.size) (o:=.exc C (some s.heap.objs.size) [(f,y)] true) (t':=s.toks+1+1) (h':=h') (by rw[aj];exact rfl) (.inr (by rw[af hxs.symm,aj]))
  (λb q hb z=>(hs2.2 b hb).trans z) ⟨oD,hoD⟩
  ⟨⟨vs,ga',zz⟩,.inr ⟨_,rfl,by rw[af hxs.symm,af hxs.symm,aj],by show 1<=1000;decide,hxs.symm,_,hn2,λg=>?_,λg hg=>?_⟩⟩
 .rw[xq]at I3;exact I3
 .show cA (List.lookup g [(f,y)]) (if g=f then some u else none)
  by_cases q:g=f
  .have hb:(g ==f)=true:=beq_iff_eq.mpr q;simp only[List.lookup,hb,if_pos q];exact ry
  .have hb:(g ==f)=false:=beq_eq_false_iff_ne.mpr q;simp only[List.lookup,hb,if_neg q];exact True.intro
 .by_cases q:g=f
  .rw[q];simp
  .exact absurd (show(if g=f then some u else none)=none by rw[if_neg q]) hg
end
section
variable {X:Cx}{Y:GD}{U:St}{H:Hp}{s:Shared}{a C:Addr}{dx:Option Addr}{fs:List (Str×V)}{f:Str}{v:V}{A:Around}{E:GC}{fr:Bool}
def Inv.fields {vs':Array Value}{h':Heap}{t':Nat}(I:Inv X Y U H s)(e:H a=some (.exc C dx fs fr))(hs:vs'.size=6)(h1:(fr=true->vs'[1]? =some Value.none)/\vs'[2]? =some Value.none)
  (ha:h'.get? a=some { cls:=.ref C,dict:=dx,data:=.fields vs' }) (k:∀ b u,b≠a->s.heap.get? b=some u->h'.get? b=some u):Inv X Y U H { s with heap:=h',toks:=t' }:=by
 have na:∀ {b:Addr},H b=none->b≠a:=λn z=>by rw[z,e]at n;cases n
 refine I.step (g':=s.gens) (d':=s.drawn) (ch:=[]) (λ_ z=>nomatch z) (λb o _ _ _ q n=>k b o (na n) q) (λb o _ _ _ q n=>⟨o.slots,k b o (na n) q⟩) (λ_ _ _ _ n=>n) (λb o _ q=>?_) (λ_ _ q=>q) (λ_ _ _ q=>q) (λb ps q=>⟨#[],by rw[q];simp⟩) (λm hm=>?_) (λb u hb=>?_) I.bare
 .by_cases hb:b=a
  .rw[hb];exact⟨_,ha⟩
  .exact⟨o,k b o hb q⟩
 .obtain⟨o,es,ep,ho,r⟩:=hm;exact⟨o,es,ep,k _ o (na I.free) ho,r⟩
 .by_cases hba:b=a
  .subst hba;rw[e]at hb;cases hb;obtain⟨_,z⟩:=id (I.hok b _ e);refine⟨⟨vs',ha,hs,h1⟩,?_⟩;rcases z with z|⟨d,ed,d1,z1,ne,mA,⟨od,es,ep,e2,c⟩,r⟩
   .exact .inl z
   .exact .inr ⟨d,ed,d1,z1,ne,mA,⟨od,es,ep,k _ _ ne e2,c⟩,r⟩
  .refine(I.hok b u hb).c9 (λc v hc q=>k c v ?_ q) (λ_ q=>q) λ_ _ q=>q
   rcases hc with z|z
   .rw[z];exact hba
   .intro y;rw[y,e]at z;cases z
def hW {R:Result->Shared->Prop}(I:Inv X Y U H s)(e:H a=some (.exc C dx fs fr))(c:b9 X.K C)
  (h:∀ s',Inv X Y U H s'->R (.ok (.ret .none)) s'):codeAny (model X.prog X.w) A (.call (.builtin "ValueError.__init__") ⟨[.ref a,u],[]⟩) R s:=by
 have F:=PySem.F.excCall_ValueError;obtain⟨⟨vs,ho,hsz,h1⟩,z⟩:=id (I.hok a _ e);have L4:Looks (model X.prog X.w) s.heap (isInstance (.ref a) (.type "ValueError")) true:=(show Looks (model X.prog X.w) s.heap (typeOf (.ref a)) (.ref C) from(Looks.ld ho).andThen .now).andThen (looks_mroIn I.bg (c.sub (by decide+kernel)));refine codeAny_call_builtin F.init.plain F.initEntry ?_;simp only[checkBuiltinCall,F.initKind,F.initSplit,F.initRow];refine ad (L4.here ?_);simp only[Bool.not_true,Bool.false_eq_true,if_false];have hshort:("ValueError" != "*")=true:=by decide
 have h0:∃ a0,vs[0]? =some a0:=⟨_,Array.getElem?_eq_getElem nofun⟩;obtain⟨a0,h0⟩:=h0;obtain⟨hp,g,d,t,os⟩:=s;unfold Bind.checkArgs;have hn:Looks (model X.prog X.w) hp (typeOf (.ref a)) (.ref C):=(Looks.ld ho).andThen .now;obtain⟨cd,rs,hcl,_⟩:=c.mro;obtain⟨oc,od,sl,hC⟩:∃ oc od sl,hp.get? C=some ⟨oc,od,.cls cd,sl⟩:=by
  unfold W.clsIn at hcl
  split at hcl
  .rename_i ho';cases hcl;exact⟨_,_,_,I.bg _ _ ho'⟩
  .cases hcl
 repeat(first|with_reducible refine wpAny_load hC ?_|wp_step)
 rw[h0];have ho1:(hp.push { cls:=.type "tuple",data:=.seq #[u] }).get? a=some { cls:=.ref C,dict:=dx,data:=.fields vs }:=sK _ ho;have hq:=Heap.get?_update_self (Obj.mapFields (·.setIfInBounds 0 (.ref hp.objs.size))) ho1 (Obj.isFreed_of_fields (Obj.data_mapFields rfl _));have fin:R (.ok (.ret Value.none)) ⟨(hp.push { cls:=.type "tuple",data:=.seq #[u] }).update a (Obj.mapFields (·.setIfInBounds 0 (.ref hp.objs.size))),g,d,t,os⟩:=by
  refine h _ (I.fields (vs':=vs.setIfInBounds 0 (.ref hp.objs.size)) (t':=t) e (by simpa using hsz) ⟨λz=>?_,?_⟩ hq λb q hb z'=>?_)
  .rw[Array.getElem?_setIfInBounds_ne (by decide)];exact h1.1 z
  .rw[Array.getElem?_setIfInBounds_ne (by decide)];exact h1.2
  .exact(Heap.get?_update_ne _ _ _ _ hb).trans (sK _ z')
 refine am (ad (wpAny_setField ho1 rfl nofun ?_));cases a0<;>first|exact am (am fin)|exact wpAny_letGo (am fin)
def nz (I:Inv X Y U H s)(e:H a=some (.exc C dx fs fr))(c:b9 X.K C)
  (h:∀ s',Inv X Y U H s'->Q .none s'):wpAny (model X.prog X.w) A (call (.builtin "ValueError.__init__") [.ref a,u]) Q E s:=wpAny_call (hW I e c h)
end
abbrev bB (K:W.Frag)(C:Addr):Bool:=match K.lookup C with
 |some ⟨_,_,.cls cd,sl⟩=>!cd.abstract&& !cd.hasDel&&(sl.toList[4]?).join ==some (.builtin "ValueError.__new__")&&cT cd.mro&&cd.mro.contains (.ref C)&&
   W.specialIn K (.ref C) "__call__" ==some (some (.builtin "type.__call__"))&&W.instIn K (.ref C) (.type "type") ==some true
 |_=>false
structure tJ (M:Model) (h:Heap) (C:Addr):Prop where
 obj:∃ oc od cd sl,h.get? C=some ⟨oc,od,.cls cd,sl⟩/\cd.abstract=false/\cd.hasDel=false/\cd.mro.isEmpty=false
 made:W.Looks M h (Bind.madeBy (.ref C)) (some "ValueError.__new__")
 base:W.Looks M h (Bind.staticBase (.ref C)) (.ref C)
 self:W.Looks M h (isSubtype (.ref C) (.ref C)) true
 top:W.Looks M h (isSubtype (.ref C) (.type "ValueError")) true
 no1:W.Looks M h (isSubtype (.ref C) (.type "AttributeError")) false
 no2:W.Looks M h (isSubtype (.ref C) (.type "NameError")) false
 call:W.Looks M h (specialOf (.ref C) "__call__") (some (.builtin "type.__call__"))
 typ:W.Looks M h (isInstance (.ref C) (.type "type")) true
def qB {n:String}(h:bt.contains (.type n)=false):(rs.map Value.ref++bt).contains (.type n)=false:=by
 induction rs with
 |nil=>exact h
 |cons a r ih=>rw[map_cons,List.cons_append,List.contains_cons,ih];rfl
def jv {K:W.Frag}{M:Model}{h:Heap}(X:K.In h){C:Addr}(e:bB K C=true):tJ M h C:=by
 unfold bB at e
 split at e
 .rename_i oc od cd sl ho;simp only[lw,Bool.not_eq_true',beq_iff_eq]at e;obtain⟨⟨⟨⟨⟨⟨e1,e2⟩,e3⟩,e4⟩,e5⟩,e7⟩,e8⟩:=e;obtain⟨rs,em⟩:=cL e4;have hc:W.clsIn K C=some cd:=by unfold W.clsIn;rw[ho]
  have hm:Looks M h (mroOf (.ref C)) cd.mro:=(looks_clsIn X hc).andThen .now;have ne:cd.mro.isEmpty=false:=by rw[em];exact pU
  obtain⟨c,l,hl⟩:∃ c l,cd.mro=c::l:=by
   cases q:cd.mro with
   |nil=>rw[q]at ne;cases ne
   |cons c l=>exact⟨c,l,rfl⟩
  have made:Looks M h (Bind.madeBy (.ref C)) (some "ValueError.__new__"):=by
   intro A Q E s k q;unfold Bind.madeBy;refine ad (hm A _ E s k ?_);rw[hl,forIn_cons];refine ad (ad (ad (ad (wpAny_loadPart (k _ _ (X _ _ ho)) (am ?_)))));dsimp only;rw[<-Array.getElem?_toList,e3];exact am (am (am q))
  have mro:∀ {v b},cd.mro.contains v=b->W.mroIn K C v=some b:=λ{v b} q=>by
   unfold W.mroIn;rw[hc,Option.bind_some,if_neg (by rw[ne];decide),q]
  refine⟨⟨oc,od,cd,sl,X _ _ ho,e1,e2,ne⟩,made,?_,looks_mroIn X (mro e5),looks_mroIn X (mro (by rw[em];exact mV (by decide+kernel))),looks_mroIn X (mro (by rw[em];exact qB (by decide+kernel))),looks_mroIn X (mro (by rw[em];exact qB (by decide+kernel))),looks_specialIn X e7,looks_instIn X e8⟩;intro A Q E s k q;unfold Bind.staticBase;refine ad (hm A _ E s k ?_);rw[hl,forIn_cons];exact ad (ad (ad (made A _ E s k (am (am (am q))))))
 .cases e
variable {rest:List Value}
section
variable {prog:Program}{w:World}{A:Around}{K:W.Frag}{C:Addr}{R:Result->Shared->Prop}{h:Heap}{g:Array GenState}{d:Drawn}{t:Nat}{os:OsState}
def zF (Y:tJ (model prog w) h C)(hz:rest.length<=bn)
  (hq:R (.ok (.ret (.ref (h.objs.size+1)))) ⟨(h.push { cls:=.type "tuple",data:=.seq rest.toArray }).push { cls:=.ref C,data:=.fields #[.ref h.objs.size,.none,.none,.none,.bool false,.none] },g,d,t,os⟩):
  codeAny (model prog w) A (.call (.builtin "ValueError.__new__") ⟨.ref C::rest,[]⟩) R ⟨h,g,d,t,os⟩:=by
 obtain⟨⟨oc,od,cd,sl,hC,e1,e2,e4⟩,made,base,self,top,no1,no2,call,typ⟩:=Y;have F:=PySem.F.excBase_ValueError;have here:Looks (model prog w) h (Bind.madeHere "BaseException.__new__" (.ref C)) ():=base.andThen (made.andThen (Looks.of_pure (by simp only[Option.map_some,F.canon,bne_self_eq_false,Bool.false_eq_true,if_false])));refine codeAny_call_builtin_code (Code.quiet_builtin _ F.quiet) ?_;simp only[checkBuiltinCall,F.newKind,F.newSplit,F.newRow]
 repeat(first|simp only[bne_self_eq_false,Bool.false_eq_true,if_false]|lk)
 refine codeAny_builtinAt F.entry ?_;unfold Builtin.«BaseException.__new__»;refine PySem.wpAt_bind ?_;show PySem.wpAt _ _ _ (stack >>= _) _ _ _;refine PySem.wpAt_bind (PySem.wpAt_stack λp below=>PySem.wpAt_of_wpAny ?_);have hends:=F.ends
 wp_walk
 refine PySem.wpAt_of_wpAny ?_;rw[F.owner]
 repeat(first|simp only[Bool.not_true,Bool.false_eq_true,if_false]|lk)
 rw[if_neg (show ¬ (rest.toArray.size>bn) by rw[ge];omega)];unfold newObjAsIs;refine ad (wpAny_alloc (am (ad ?_)));show wpAny _ _ (newObjAsIs _ _ _) _ _ _;unfold newObjAsIs classHasDel;refine ad (wpAny_alloc (ad (ad (wpAny_load (sK _ (sK _ hC)) (am ?_)))));rw[e2];refine am (am ?_);show R _ _;rw[Heap.size_push];exact hq
def Ae {fI:Addr}(X:K.In h)(hz:rest.length<=bn)(hm:bB K C=true)(hi:W.findIn K (.ref C) "__init__"=some (some (.ref fI))) (hf:W.typeIn K (.ref fI)=some (.type "function"))
  (hq:codeAny (model prog w) (A.under (.builtin "type.__call__" ⟨.ref C::rest,[]⟩)) (.call (.ref fI) ⟨.ref (h.objs.size+1)::rest,[]⟩) (InitBack (h.objs.size+1) R)
   ⟨(h.push { cls:=.type "tuple",data:=.seq rest.toArray }).push { cls:=.ref C,data:=.fields #[.ref h.objs.size,.none,.none,.none,.bool false,.none] },g,d,t,os⟩):
  codeAny (model prog w) A (.call (.ref C) ⟨rest,[]⟩) R ⟨h,g,d,t,os⟩:=by
 have Y:=jv (M:=model prog w) X hm;have Y':=Y;obtain⟨⟨oc,od,cd,sl,hC,e1,e2,e4⟩,made,base,self,top,no1,no2,call,typ⟩:=Y;refine codeAny_of_tree ?_;show wpAny _ _ (callAny (.ref C) _) _ _ _;refine nd_load hC ?_;show wpAny _ _ (callAny.viaDunder (.ref C) _) _ _ _;unfold callAny.viaDunder;refine ad (call.at ?_);dsimp only;rw[tc_bind];refine ad (am (ad (am ?_)));refine am (a:=Fin.again (.call (.builtin "type.__call__") ⟨.ref C::rest,[]⟩)) (And.intro rfl ?_);refine codeAny_call_builtin_at (Code.quiet_builtin _ (by decide+kernel)) entry_typeCall (check_slot tc_kind tc_split typ (tc_args _ _ _) ?_);unfold Builtin.«type.__call__»;have hmr:Looks (model prog w) h (mroOf (.ref C)) cd.mro:=((Looks.ld (part:=none) hC).andThen .now).andThen .now
 repeat(first|simp only[e4,Bool.false_eq_true,if_false]|with_reducible refine wpAny_call ?_|lk)
 refine zF Y' hz ?_;have k:∀ b o,h.get? b=some o->((h.push { cls:=.type "tuple",data:=.seq rest.toArray }).push { cls:=.ref C,data:=.fields #[.ref h.objs.size,.none,.none,.none,.bool false,.none] }).get? b=some o:=λb o e=>sK _ (sK _ e)
 have hx:((h.push { cls:=.type "tuple",data:=.seq rest.toArray }).push { cls:=.ref C,data:=.fields #[.ref h.objs.size,.none,.none,.none,.bool false,.none] }).get? (h.objs.size+1)=some { cls:=.ref C,data:=.fields #[.ref h.objs.size,.none,.none,.none,.bool false,.none] }:=by heap_get
 have t1:Looks (model prog w) ((h.push { cls:=.type "tuple",data:=.seq rest.toArray }).push { cls:=.ref C,data:=.fields #[.ref h.objs.size,.none,.none,.none,.bool false,.none] }) (typeOf (.ref (h.objs.size+1))) (.ref C):=(Looks.ld hx).andThen .now;have s1:=self.keeps k;have i1:=(looks_findIn (M:=model prog w) X hi).keeps k;have b1:=(bind_fn (M:=model prog w) X (.ref (h.objs.size+1)) hf).keeps k;unfold isInstance callSpecial? specialOf
 repeat(first|with_reducible refine wpAny_call ?_|lk)
 refine codeAny_mono hq λr s' z=>?_
 rcases r with e|(v|_|_|_)<;>first|exact z|exact z.elim|skip
 obtain⟨rfl,z⟩:=z;exact am (am z)
def yR (X:K.In h)(hz:rest.length<=bn)(hm:bB K C=true)(hi:W.findIn K (.ref C) "__init__"=some (some (.builtin "ValueError.__init__")))
  (hq:codeAny (model prog w) (A.under (.builtin "type.__call__" ⟨.ref C::rest,[]⟩)) (.call (.builtin "ValueError.__init__") ⟨.ref (h.objs.size+1)::rest,[]⟩) (InitBack (h.objs.size+1) R)
   ⟨(h.push { cls:=.type "tuple",data:=.seq rest.toArray }).push { cls:=.ref C,data:=.fields #[.ref h.objs.size,.none,.none,.none,.bool false,.none] },g,d,t,os⟩):
  codeAny (model prog w) A (.call (.ref C) ⟨rest,[]⟩) R ⟨h,g,d,t,os⟩:=by
 have Y:=jv (M:=model prog w) X hm;have Y':=Y;obtain⟨⟨oc,od,cd,sl,hC,e1,e2,e4⟩,made,base,self,top,no1,no2,call,typ⟩:=Y;refine codeAny_of_tree ?_;show wpAny _ _ (callAny (.ref C) _) _ _ _;refine nd_load hC ?_;show wpAny _ _ (callAny.viaDunder (.ref C) _) _ _ _;unfold callAny.viaDunder;refine ad (call.at ?_);dsimp only;rw[tc_bind];refine ad (am (ad (am ?_)));refine am (a:=Fin.again (.call (.builtin "type.__call__") ⟨.ref C::rest,[]⟩)) (And.intro rfl ?_);refine codeAny_call_builtin_at (Code.quiet_builtin _ (by decide+kernel)) entry_typeCall (check_slot tc_kind tc_split typ (tc_args _ _ _) ?_);unfold Builtin.«type.__call__»;have hmr:Looks (model prog w) h (mroOf (.ref C)) cd.mro:=((Looks.ld (part:=none) hC).andThen .now).andThen .now
 repeat(first|simp only[e4,Bool.false_eq_true,if_false]|with_reducible refine wpAny_call ?_|lk)
 refine zF Y' hz ?_;have k:∀ b o,h.get? b=some o->((h.push { cls:=.type "tuple",data:=.seq rest.toArray }).push { cls:=.ref C,data:=.fields #[.ref h.objs.size,.none,.none,.none,.bool false,.none] }).get? b=some o:=λb o e=>sK _ (sK _ e)
 have hx:((h.push { cls:=.type "tuple",data:=.seq rest.toArray }).push { cls:=.ref C,data:=.fields #[.ref h.objs.size,.none,.none,.none,.bool false,.none] }).get? (h.objs.size+1)=some { cls:=.ref C,data:=.fields #[.ref h.objs.size,.none,.none,.none,.bool false,.none] }:=by heap_get
 have t1:Looks (model prog w) ((h.push { cls:=.type "tuple",data:=.seq rest.toArray }).push { cls:=.ref C,data:=.fields #[.ref h.objs.size,.none,.none,.none,.bool false,.none] }) (typeOf (.ref (h.objs.size+1))) (.ref C):=(Looks.ld hx).andThen .now;have s1:=self.keeps k;have i1:=(looks_findIn (M:=model prog w) X hi).keeps k;have b1:Looks (model prog w) ((h.push { cls:=.type "tuple",data:=.seq rest.toArray }).push { cls:=.ref C,data:=.fields #[.ref h.objs.size,.none,.none,.none,.bool false,.none] }) (bindSpecial (.builtin "ValueError.__init__") (.ref (h.objs.size+1))) (.builtin "ValueError.__init__",[.ref (h.objs.size+1)]):=Looks.of_pure (PySem.F.excCall_ValueError.init.bind _);unfold isInstance callSpecial? specialOf
 repeat(first|with_reducible refine wpAny_call ?_|lk)
 refine codeAny_mono hq λr s' z=>?_
 rcases r with e|(v|_|_|_)<;>first|exact z|exact z.elim|skip
 obtain⟨rfl,z⟩:=z;exact am (am z)
end
end L2
namespace L2
open PySem PySem.Spec PySem.W PyProof.Rows
abbrev aZ (e:Addr)(h h':Heap):Prop:=∀ oe vs,h.get? e=some oe->oe.data=.fields vs->∃ vs',h'.get? e=some { oe with data:=.fields vs' }/\vs'.size=vs.size/\vs'[2]? =vs[2]?
abbrev BE (as:List Addr)(h h':Heap):Prop:=∀ b o,b ∉ as->h.get? b=some o->h'.get? b=some o
abbrev so (h:Heap)(e T:Addr)(fl:Value):Prop:=∃ oe vs oT ts,h.get? e=some oe/\oe.data=.fields vs/\vs[1]? =some (.ref T)/\T≠e/\h.get? T=some oT/\oT.data=.fields ts/\ts[3]? =some fl
def aZ.trans {e:Addr}{h h1 h2:Heap}(a:aZ e h h1)(b:aZ e h1 h2):aZ e h h2:=λoe vs x y=>by
 obtain⟨vs1,x1,z1⟩:=a oe vs x y;obtain⟨vs2,x2,z2⟩:=b _ vs1 x1 rfl;exact⟨vs2,x2,z2.1.trans z1.1,z2.2.trans z1.2⟩
def aZ.same {e:Addr}{h h':Heap}(k:h'.get? e=h.get? e):aZ e h h':=λoe vs x y=>⟨vs,by rw[k,x,<-y],rfl,rfl⟩
variable {Q:GB}
section
variable {M:Model}{A:Around}{E:GC}{s:Shared}{base:Heap}{env:Env}{outer:List Env}{L e:Addr}
def jE {oe:Obj}{vs:Array Value}{head:Value}{hadNext:Bool}(hfr:A.frames=some (env::outer))(hl:s.heap.FunFrames base (env::outer))(hf:env.frame=some L)
  (he:s.heap.get? e=some oe) (hd:oe.data=.fields vs) (hsz:1<vs.size)
  (q:∀ h' T,s.heap.objs.size<=T->so h' e T (rawInt L)->aZ e s.heap h'->(∀ b o,b≠e->s.heap.get? b=some o->∃ sl,h'.get? b=some { o with slots:=sl })->BE (e::ky (env::outer)) s.heap h'->Q () { s with heap:=h' }):
  wpAny M A (do let a <-frameOf env;let pl <-entryPlaceOf L hadNext;let b <-EntryCells.newEntry head a .none (rawInt L) .none pl;setField (.ref e) 1 b) Q E s:=by
 have hne:e ∉ ky (env::outer):=λhm=>by
  obtain⟨_,o,ho,hnf⟩:=hl.mem hm;rw[he]at ho;cases ho;exact hnf vs hd
 refine ad (wpAny_frameOf_fun hfr hl hf λh1 s1=>ad (wpAny_entryPlaceOf λpl hpl=>?_));unfold EntryCells.newEntry newFields;refine ad (wpAny_newObj_type ?_ (hpl.sizeOk5 _ _ _ _ _));have e1:h1.get? e=some oe:=(s1.2.1 e hne).trans he;have e2:=sK (h:=h1) { cls:=.type "traceback",dict:=none,data:=.fields ([head,.ref L,.none,rawInt L,.none]++(if pl.isEmpty then ss 6 Value.none else pl)).toArray } e1;have hTe:h1.objs.size≠e:=Nat.ne_of_gt (tz e1);have d3:=Obj.data_mapFields hd (·.setIfInBounds 1 (Value.ref h1.objs.size));have e3:=Heap.get?_update_self (Obj.mapFields (·.setIfInBounds 1 (Value.ref h1.objs.size))) e2 (Obj.isFreed_of_fields d3);have t3:=(Heap.get?_update_other (h1.push { cls:=.type "traceback",dict:=none,data:=.fields ([head,.ref L,.none,rawInt L,.none]++(if pl.isEmpty then ss 6 Value.none else pl)).toArray })
  (Obj.mapFields (·.setIfInBounds 1 (Value.ref h1.objs.size))) (Ne.symm hTe)).trans (ul h1 rfl)
 have keep:∀ b o,b≠e->h1.get? b=some o->((h1.push { cls:=.type "traceback",dict:=none,data:=.fields ([head,.ref L,.none,rawInt L,.none]++(if pl.isEmpty then ss 6 Value.none else pl)).toArray }).update e (Obj.mapFields (·.setIfInBounds 1 (Value.ref h1.objs.size)))).get? b=some o:=
  λb o hb hq=>(Heap.get?_update_other _ _ (Ne.symm hb)).trans (sK _ hq)
 refine wpAny_setField e2 hd hsz (q _ h1.objs.size ?_ ?_ ?_ (λb o hb ho=>?_) λb o hb ho=>?_)
 .rw[s1.1];exact pi _
 .refine⟨_,_,_,_,e3,d3,by simp[hsz],hTe,t3,rfl,?_⟩
  first|(simp;done)|(rcases hpl with rfl|⟨_,_,_,_,_,_,_,rfl⟩<;>simp)
 .intro oe' vs' x y;rw[he]at x;cases x;rw[hd]at y;cases y;refine⟨vs.setIfInBounds 1 (.ref h1.objs.size),?_,by simp,Array.getElem?_setIfInBounds_ne (by decide)⟩;rw[e3];obtain⟨c0,d0,dt,sl0⟩:=oe;cases hd
  rfl
 .obtain⟨sl,z⟩:=s1.2.2 b o ho;exact⟨sl,keep b _ hb z⟩
 .exact keep b o (λz=>hb (by rw[z];exact li)) ((s1.2.1 b λz=>hb (dl _ z)).trans ho)
abbrev tG (n₀:Nat)(ps:GD)(H:Hp)(h:Heap)(e:Addr):Prop:=(∃ oe vs,h.get? e=some oe/\oe.data=.fields vs/\vs[1]? =some Value.none)\/∃ T,n₀<=T/\H T=none/\(∀ p ∈ ps,p.1≠T)/\∃ fl,so h e T fl
def wm {n₀:Nat}{ps:GD}{H:Hp}(hfr:A.frames=some (env::outer))(hl:s.heap.FunFrames base (env::outer))(hf:env.frame=some L)(sf:(∃ oe vs,s.heap.get? e=some oe/\oe.data=.fields vs/\vs[1]? =some Value.none)\/∃ T,n₀<=T/\H T=none/\(∀ p ∈ ps,p.1≠T)/\∃ fl,(fl ==rawInt L)=false/\so s.heap e T fl) (h0:n₀<=s.heap.objs.size) (hps:∀ p ∈ ps,p.1<s.heap.objs.size)
  (q:∀ h' T T0,s.heap.objs.size<=T->n₀<=T0->(H T0=none\/s.heap.objs.size<=T0)->(∀ p ∈ ps,p.1≠T0)->(∀ o,s.heap.get? T0=some o->∃ ts,o.data=.fields ts)->so h' e T (rawInt L)->aZ e s.heap h'->h'.FunFrames base (env::outer)->(∀ b o,b≠e->b≠T0->s.heap.get? b=some o->∃ sl,h'.get? b=some { o with slots:=sl })->BE (e::T0::ky (env::outer)) s.heap h'->(∀ b o,s.heap.get? b=some o->∃ o',h'.get? b=some o')->Q () { s with heap:=h' }):
  wpAny M A (noteFrame (.ref e) env) Q E s:=by
 have fun_of:∀ {h':Heap}{as:List Addr},(∀ b ∈ as,∀ o,s.heap.get? b=some o->∃ vs,o.data=.fields vs)->(∀ b o,b ∉ as->s.heap.get? b=some o->∃ sl,h'.get? b=some { o with slots:=sl })->h'.FunFrames base (env::outer):=
  λ{h' as} ha k=>hl.of_keeps λb o ho hnf=>by
   by_cases hb:b ∈ as
   .obtain⟨vs,z⟩:=ha b hb o ho;exact absurd z (hnf vs)
   .obtain⟨sl,z⟩:=k b o hb ho;exact⟨_,z,rfl⟩
 unfold noteFrame;simp only[hf];rcases sf with⟨oe,vs,he,hd,h1⟩|⟨T0,hT0,hH0,hp0,fl,hfl,oe,vs,oT,ts,he,hd,h1,hTe,hT,hdT,h3⟩
 .skip
  refine ad (ap he hd h1 ?_);rw[if_neg (by decide)];refine jE hfr hl hf he hd (Array.getElem?_eq_some_iff.mp h1).1 λh' T hT st fo sl sy=>?_
  refine q h' T s.heap.objs.size hT h0 (.inr (pi _)) (λp hp=>pc (hps p hp)) (λo z=>absurd (tz z) (Nat.lt_irrefl _)) st fo ?_ (λb o hb _ ho=>sl b o hb ho) (λb o hb ho=>sy b o (λz=>hb ?_) ho) λb o ho=>?_
  .refine fun_of (as:=[e]) (λb hb o ho=>?_) λb o hb ho=>sl b o (by simpa using hb) ho
   obtain rfl:b=e:=by simpa using hb
   rw[he]at ho;cases ho;exact⟨vs,hd⟩
  .rcases lv.mp z with z|z
   .exact lv.mpr (.inl z)
   .exact dl _ (dl _ z)
  .by_cases hb:b=e
   .subst hb;rw[he]at ho;cases ho;obtain⟨vs',z,_⟩:=fo _ _ he hd;exact⟨_,z⟩
   .obtain⟨sl',z⟩:=sl b o hb ho;exact⟨_,z⟩
 .refine ad (ap he hd h1 ?_);rw[if_pos (show(Value.ref T0 != Value.none)=true from by simp)];refine ad (ap hT hdT h3 ?_);rw[if_neg (by rw[hfl];exact Bool.false_ne_true)];refine ad (wpAny_setField hT hdT (Array.getElem?_eq_some_iff.mp h3).1 ?_);have other:∀ b,b≠T0->(s.heap.update T0 (Obj.mapFields (·.setIfInBounds 3 Value.none))).get? b=s.heap.get? b:=λb hb=>Heap.get?_update_other _ _ (Ne.symm hb)
  have self':=Heap.get?_update_self (Obj.mapFields (·.setIfInBounds 3 Value.none)) hT (Obj.isFreed_of_fields (Obj.data_mapFields hdT _));have rec':∀ b o,s.heap.get? b=some o->(∀ vs,o.data≠.fields vs)->b≠T0:=λb o hb hnf z=>by
   rw[z,hT]at hb;cases hb;exact hnf ts hdT
  refine jE (base:=base) hfr (hl.of_keeps λb o hb hnf=>⟨o,(other b (rec' b o hb hnf)).trans hb,rfl⟩) hf ((other e (Ne.symm hTe)).trans he) hd (Array.getElem?_eq_some_iff.mp h1).1 λh' T hTn st fo sl sy=>?_
  have hTn':s.heap.objs.size<=T:=by
   have z:(s.heap.update T0 (Obj.mapFields (·.setIfInBounds 3 Value.none))).objs.size<=T:=hTn
   rwa [Heap.size_after_update]at z
  refine q h' T T0 hTn' hT0 (.inl hH0) hp0 (λo z=>by rw[hT]at z;cases z;exact⟨ts,hdT⟩) st (aZ.trans (aZ.same (other e (Ne.symm hTe))) fo) ?_ (λb o hb hb0 ho=>sl b o hb ((other b hb0).trans ho)) (λb o hb ho=>?_) λb o ho=>?_
  .refine fun_of (as:=[e,T0]) (λb hb o ho=>?_) λb o hb ho=>sl b o (λz=>hb (by simp[z])) ((other b λz=>hb (by simp[z])).trans ho)
   rcases lv.mp hb with hb|hb
   .subst hb;rw[he]at ho;cases ho;exact⟨vs,hd⟩
   .obtain rfl:b=T0:=by simpa using hb
    rw[hT]at ho;cases ho;exact⟨ts,hdT⟩
  .have n1:b≠e:=λz=>hb (by simp[z])
   have n2:b≠T0:=λz=>hb (by simp[z])
   refine sy b o (λz=>hb ?_) ((other b n2).trans ho);rcases lv.mp z with z|z
   .exact lv.mpr (.inl z)
   .exact dl _ (dl _ z)
  .by_cases hb:b=e
   .subst hb;obtain⟨vs',z,_⟩:=fo _ _ ((other b (Ne.symm hTe)).trans he) hd;exact⟨_,z⟩
   .by_cases hb0:b=T0
    .subst hb0;obtain⟨sl',z⟩:=sl b _ hb self';exact⟨_,z⟩
    .obtain⟨sl',z⟩:=sl b o hb ((other b hb0).trans ho);exact⟨_,z⟩
def pH {T:Addr}{fl:Value}(st:so s.heap e T fl)
  (q:∀ h',so h' e T .none->(∀ b,b≠T->h'.get? b=s.heap.get? b)->(∃ o,s.heap.get? T=some o)->(∃ o,h'.get? T=some o)->(∃ oT ts,h'.get? T=some oT/\oT.data=.fields ts)->Q () { s with heap:=h' }):wpAny M A (setFlight (.ref e) none) Q E s:=by
 obtain⟨oe,vs,oT,ts,he,hd,h1,hTe,hT,hdT,h3⟩:=st;have hz:3<ts.size:=(Array.getElem?_eq_some_iff.mp h3).1;have other:∀ b,b≠T->(s.heap.update T (Obj.mapFields (·.setIfInBounds 3 ((none:Option Addr).elim Value.none λf=>rawInt f)))).get? b=s.heap.get? b:=λb hb=>Heap.get?_update_other _ _ (Ne.symm hb)
 have self':=Heap.get?_update_self (Obj.mapFields (·.setIfInBounds 3 ((none:Option Addr).elim Value.none λf=>rawInt f))) hT (Obj.isFreed_of_fields (Obj.data_mapFields hdT _));unfold setFlight;refine ad (ap he hd h1 ?_);rw[if_pos (show(Value.ref T != Value.none)=true from by simp)];refine wpAny_setField hT hdT hz (q _ ⟨oe,vs,_,_,(other e (Ne.symm hTe)).trans he,hd,h1,hTe,self',Obj.data_mapFields hdT _,by simp[hz]⟩ other ⟨_,hT⟩ ⟨_,self'⟩ ⟨_,_,self',Obj.data_mapFields hdT _⟩)
end
variable {A:Around}
section
variable {X:Cx}{U:St}{H:Hp}{s:Shared}{e C:Addr}{dx:Option Addr}{fs:List (Str×V)}{h':Heap}
def Inv.nO {Y:GD}(I:Inv X Y U H s):Inv X [] U H s:=I.jW λ_ z=>absurd z (by simp)
def Inv.Dl {T0:Addr}{as:List Addr}(I:Inv X [] U H s)(hpn:∀ p ∈ X.pn,p.1≠T0) (he:H e=some (.exc C dx fs false)) (has:as=ky X.stack)
  (hT:X.s₀.heap.objs.size<=T0) (hT0:H T0=none\/s.heap.objs.size<=T0) (hTd:∀ o,s.heap.get? T0=some o->∃ ts,o.data=.fields ts)
  (fo:aZ e s.heap h') (sl:∀ b o,b≠e->b≠T0->s.heap.get? b=some o->∃ sl,h'.get? b=some { o with slots:=sl }) (sy:BE (e::T0::as) s.heap h') (th:∀ b o,s.heap.get? b=some o->∃ o',h'.get? b=some o'):
  Inv X [] U H { s with heap:=h' }:=by
 subst has;obtain⟨⟨vs,ho,hsz,_,h2⟩,z⟩:=id (I.hok e _ he);have hH0:H T0=none:=by
  rcases hT0 with z|z
  .exact z
  .exact I.hok.fresh z
 have nT:∀ {b:Addr}{o:Obj},s.heap.get? b=some o->(∀ vs,o.data≠.fields vs)->b≠T0:=λ{b o} hb hn z=>by
  subst z;obtain⟨ts,q⟩:=hTd _ hb;exact hn ts q
 have c9:∀ b o,H b=none->b≠T0->b ∉ ky X.stack->s.heap.get? b=some o->h'.get? b=some o:=λb o hb h0 hf hq=>sy b o (λm=>by
  rcases lv.mp m with m|m
  .rw[m,he]at hb;cases hb
  .rcases lv.mp m with m|m
   .exact h0 m
   .exact hf m) hq
 have zv:∀ a u,H a=some u->a≠e->∀ o,s.heap.get? a=some o->h'.get? a=some o:=λa u ha ne o hq=>sy a o (λm=>by
  rcases lv.mp m with m|m
  .exact ne m
  .rcases lv.mp m with m|m
   .rw[m,hH0]at ha;cases ha
   .rw[I.jX a m]at ha;cases ha) hq
 refine I.step (g':=s.gens) (t':=s.toks) (d':=s.drawn) (ch:=[T0]) (h':=h') (λb hb=>?_) (λb o hL hfs hch hq hn=>?_) (λb o hL hfs hch hq hn=>?_) (λb o _ _ hn=>hn) (λb o _ hq=>th b o hq) (λ_ _ q=>q) (λ_ _ _ q=>q) (λb ps q=>⟨#[],by rw[q];simp⟩) (λm hm=>?_) (λa u ha=>?_) I.bare
 .obtain rfl:b=T0:=by simpa using hb
  refine⟨.inr hT,?_,λx c hc z=>?_,λp hp=>hpn p (by simpa using hp)⟩
  .obtain⟨m,⟨o,es,ep,ho',hd,_⟩,_⟩:=I.loc;intro z;exact nT ho' (λvs q=>by rw[hd]at q;cases q) z.symm
  .obtain⟨v,o,ho',hd⟩:=I.cell x c hc;exact nT ho' (λvs q=>by rw[hd]at q;cases q) z
 .refine c9 b o hn (by simpa using hch) (λm=>?_) hq;rcases lv.mp (I.fW b m) with z|z
  .exact hL z
  .exact hfs z
 .exact sl b o (λz=>by rw[z,he]at hn;cases hn) (by simpa using hch) hq
 .obtain⟨o,es,ep,ho',hd,r⟩:=hm;have n1:X.env.locals≠e:=λz=>by have:=I.free;rw[z,he]at this;cases this
  obtain⟨sl',q⟩:=sl _ o n1 (nT ho' λvs q=>by rw[hd]at q;cases q) ho';exact⟨_,es,ep,q,hd,r⟩
 .by_cases hae:a=e
  .subst hae;rw[he]at ha;cases ha;obtain⟨vs',q,hz,hz2⟩:=fo _ vs ho rfl;refine⟨⟨vs',q,hz.trans hsz,(λy=>by cases y),hz2.trans h2⟩,?_⟩;rcases z with z|⟨d,ed,d1,z1,ne,mA,⟨od,es,ep,e2,c⟩,r⟩
   .exact .inl z
   .exact .inr ⟨d,ed,d1,z1,ne,mA,⟨od,es,ep,zv d _ d1 ne _ e2,c⟩,r⟩
  .refine(I.hok a u ha).c9 (λb o hb hq=>?_) (λ_ q=>q) λ_ _ q=>q
   rcases hb with hb|hb
   .subst hb;exact zv b u ha hae o hq
   .refine zv b _ hb (λz=>?_) o hq;rw[z,he]at hb;cases hb
abbrev t7 (P:Program)(w:World):qq:=λouter H s E u s'=>∃ (e:Addr) (H':Hp) (C:Addr) (dx:Option Addr) (fs:List (Str×V)) (T:Addr),u=.ref e/\s'.os=s.os/\AllBare s'.gens/\Un (ky outer) [] H H' s.heap s'.heap/\eD P w H' s'.heap/\
 H' e=some (.exc C dx fs false)/\s.heap.objs.size<=T/\H' T=none/\so s'.heap e T .none/\E e H'
abbrev zY (X:Cx)(E:St->XK):Prop:=∀ (U:St) (H:Hp) (s:Shared) (e C:Addr) (dx:Option Addr) (fs:List (Str×V)),Inv X [] U H s->tG X.s₀.heap.objs.size X.pn H s.heap e->H e=some (.exc C dx fs false)->E U e H->X.xe (.ref e) s
def cI {E:St->XK}(x:zY X E):Passes (t7 X.prog X.w) X E:=by
 intro Y U H s u s' I h;obtain⟨e,H',C,dx,fs,T,rfl,os,bare,un,hok,he,hT,hT0,st,q⟩:=h;have J:Inv X [] U H' s':=Inv.pG (ch:=[]) I.nO os un hok bare (λb z=>absurd z (by simp));exact x U H' s' e C dx fs J (.inr ⟨T,Nat.le_trans I.sz hT,hT0,λp hp=>pc (nb (tz (I.pin p (mem_append_left _ hp)).1) hT),_,st⟩) he q
def kB {x:Value}{e1 e2:Env}(h:e1.frame=e2.frame):noteFrame x e1=noteFrame x e2:=by
 unfold noteFrame PySem.frameOf;rw[h]
def Inv.uw {T:Addr}{oT:Obj}{ts:Array Value}(I:Inv X [] U H s)(hT:s.heap.get? T=some oT)(hd:oT.data=.fields ts):T≠X.env.locals/\∀ x c,X.env.cells.lookup x=some c->c≠T:=by
 refine⟨λz=>?_,λx c hc z=>?_⟩
 .obtain⟨m,⟨o,es,ep,ho',hd',_⟩,_⟩:=I.loc;rw[<-z,hT]at ho';cases ho';rw[hd]at hd';cases hd'
 .obtain⟨v,o,ho',hd'⟩:=I.cell x c hc;rw[z,hT]at ho';cases ho';rw[hd]at hd';cases hd'
def lC {M:Model}{E':GC}{env e0:Env}{o0:List Env}{L:Addr}(I:Inv X [] U H s)(hs:X.stack=e0::o0)(hf0:e0.frame=some L)(hf:env.frame=some L)(sf:tG X.s₀.heap.objs.size X.pn H s.heap e)(he:H e=some (.exc C dx fs false))
  (q:∀ h' T,Inv X [] U H { s with heap:=h' }->X.s₀.heap.objs.size<=T->H T=none->(∀ p ∈ X.pn,p.1≠T)->so h' e T (rawInt L)->Q () { s with heap:=h' }):
  wpAny M X.A (noteFrame (.ref e) env) Q E' s:=by
 rw[kB (e1:=env) (e2:=e0) (hf.trans hf0.symm)];have hl:s.heap.FunFrames X.base (e0::o0):=hs▸I.stack;have go:((∃ oe vs,s.heap.get? e=some oe/\oe.data=.fields vs/\vs[1]? =some Value.none)\/∃ T,X.s₀.heap.objs.size<=T/\H T=none/\(∀ p ∈ X.pn,p.1≠T)/\∃ fl,(fl ==rawInt L)=false/\so s.heap e T fl)->wpAny M X.A (noteFrame (.ref e) e0) Q E' s:=λsf=>by
  refine wm (by rw[<-hs];exact I.ok.frames) hl hf0 sf I.sz (λp hp=>tz (I.pin p (mem_append_left _ hp)).1) λh1 T T0 hT hT0 hH0 hp0 hTd st fo fF sl sy th=>?_
  exact q h1 T (I.Dl (T0:=T0) (as:=ky (e0::o0)) (h':=h1) hp0 he (by rw[hs]) hT0 hH0 hTd fo sl sy th) (Nat.le_trans I.sz hT) (I.hok.fresh hT) (λp hp=>pc (nb (tz (I.pin p (mem_append_left _ hp)).1) hT)) st
 rcases sf with sf|⟨T,hT,hH,hp,fl,st⟩
 .exact go (.inl sf)
 .cases hfl:(fl ==rawInt L) with
  |false=>exact go (.inr ⟨T,hT,hH,hp,fl,hfl,st⟩)
  |true=>
   obtain rfl:fl=rawInt L:=eq_of_beq hfl;obtain⟨oe,vs,oT,ts,he',hd,h1,hTe,hoT,hdT,h3⟩:=id st;exact wpAny_noteFrame_inFlight hf0 he' hd h1 hoT hdT h3 (q s.heap T I hT hH hp st)
def jK {M:Model}{E E':GC}{Q:Shared->Prop}(I:Inv X [] U H s)(hs:X.stack=X.env::X.outer)(hf:X.env.frame=some X.env.locals)(sf:tG X.s₀.heap.objs.size X.pn H s.heap e)(he:H e=some (.exc C dx fs false))
  (q:∀ s' T,Inv X [] U H s'->s'.os=s.os->X.s₀.heap.objs.size<=T->H T=none->(∀ p ∈ X.pn,p.1≠T)->so s'.heap e T .none->Q s'):
  wpAny M X.A (noteFrame (.ref e) X.env) (λ_ s1=>wpAny M X.A (setFlight (.ref e) none) (λ_ s2=>Q s2) E s1) E' s:=by
 refine lC I hs hf hf sf he λh1 T I1 hT hHT hpT st=>?_
 obtain⟨_,_,oT,ts,_,_,_,_,hoT,hdT,_⟩:=id st;obtain⟨n1,n2⟩:=I1.uw hoT hdT;refine pH (s:={ s with heap:=h1 }) st λh2 k8 oth _ th2 rec2=>?_
 exact q _ T (Inv.turned (s:={ s with heap:=h1 }) (it:=T) (h':=h2) (t':=s.toks) I1 (λb o hb hq=>(oth b hb).trans hq) hHT n1 (.inr hT) n2 λp hp=>hpT p (by simpa using hp)) rfl hT hHT hpT k8
def rY {c:Bool}{P:Program}{w:World}{K:W.Frag}{mg:GF}{base:Heap}{N:List Str}{qual:Str}{scope:Scope}{f:Addr}{cd:Value}{outer:List Env}{E:XK}:
  zY (su c (t7 P w) P w K mg base N qual scope f cd A outer s H E) (λ_=>E):=by
 intro σ' H' s' e C dx fs I sf he q;show wpAny _ _ (do noteFrame (.ref e) _;setFlight (.ref e) none) _ _ s';refine ad (jK I rfl rfl sf he λs2 T J os hT hH _ st=>?_);exact⟨e,H',C,dx,fs,T,rfl,J.os,J.bare,J.base,J.hok,he,hT,hH,st,q⟩
end
structure Ef (K:W.Frag) (C f:Addr):Prop where
 mks:bB K C=true
 init:W.findIn K (.ref C) "__init__"=some (some (.ref f))
 fn:W.isFn K (.ref f)=true
 kp:W.keepIn K (.ref C)=true
variable {us:List Value}{vs:List V}
section
variable {X:Cx}{Y:GD}{U:St}{H:Hp}{s:Shared}{C f:Addr}
def Inv.zj (us:List Value)(I:Inv X Y U H s):Inv X Y U (upd H (s.heap.objs.size+1) (.exc C none [] true))
  { s with heap:=(s.heap.push { cls:=.type "tuple",data:=.seq us.toArray }).push { cls:=.ref C,data:=.fields #[.ref s.heap.objs.size,.none,.none,.none,.bool false,.none] } }:=by
 have I1:=I.kept (h':=s.heap.push { cls:=.type "tuple",data:=.seq us.toArray }) (t':=s.toks) λb u q=>sK _ q
 refine Inv.laid (s:={ s with heap:=s.heap.push { cls:=.type "tuple",data:=.seq us.toArray } }) (a:=s.heap.objs.size+1) (o:=.exc C none [] true) (t':=s.toks) I1 (λb u q=>sK _ q) (Nat.le_of_eq (Heap.size_push _ _)) ?_;refine⟨⟨#[.ref s.heap.objs.size,.none,.none,.none,.bool false,.none],?_,rfl,λ_=>rfl,rfl⟩,.inl ⟨rfl,rfl⟩⟩;have:=ul (s.heap.push { cls:=.type "tuple",data:=.seq us.toArray }) (o:={ cls:=.ref C,data:=.fields #[.ref s.heap.objs.size,.none,.none,.none,.bool false,.none] }) rfl
 rwa [Heap.size_push]at this
variable {c:Bool}{CX:qq}{k:Nat}{fd:FuncData}{ps:List Str}{sp:Sp}{dvs:List V}{ds:List Value}{E:St->XK}{x m:Str}{p pos apos:Pos}{e o:Expr}{es:List Expr}{ta:TE}{t:TA}
abbrev vK (C:Addr)(sp:Sp)(dvs:List V)(E:St->XK)(t:TA):TE:=λU H Q=>t U H λvs H1=>vs.length<=1000/\∀ x,H1 x=none->sp (.ref x::(vs++dvs)) (upd H1 x (.exc C none [] true)) (λv H2=>v=.non/\Q (.ref x) H2) (E U)
def jJ {Q:VK}(M:Ef X.K C f)(F:cE c X.prog X.w X.K X.mg X.base CX k f fd ps sp)(hh:∀ {Y:GD}{U:St}{H:Hp}{s:Shared}{vs:List V}{Q:VK}{E:XK},Inv X Y U H s->sp vs H Q E->sL c X.A.handled H) (hr:bb (k+1) X.A) (hb:Binds X.K fd ps ds) (hd:Vals dvs ds)
  (hx:Passes CX X E) (hz:us.length<=bn) (I:Inv X Y U H s) (r:Vals vs us)
  (h:∀ x,H x=none->sp (.ref x::(vs++dvs)) (upd H x (.exc C none [] true)) (λv H2=>v=.non/\Q (.ref x) H2) (E U)):
  wpAny (model X.prog X.w) X.A (call (.ref C) us) (EP X Y U Q) X.xe s:=by
 have hq:=h (s.heap.objs.size+1) (I.hok.fresh (Nat.le_succ _));have I2:=Inv.zj (C:=C) us I;have r2:Vals (V.ref (s.heap.objs.size+1)::(vs++dvs)) (Value.ref (s.heap.objs.size+1)::(us++ds)):=.cons rfl (r.append hd);have hl:(Value.ref (s.heap.objs.size+1)::us++ds).length=ps.length:=by
  have e:=r2.length;rw[F.len _ _ _ _ hq]at e;exact e.symm
 obtain⟨hp,g,d,tk,os⟩:=s;refine wpAny_call (Ae (fI:=f) I.bg hz M.mks M.init (beq_iff_eq.mp M.fn) (codeAny_mono (F.run _ X.stack _ _ ⟨Value.ref (hp.objs.size+1)::us,[]⟩ (Value.ref (hp.objs.size+1)::(us++ds)) _ _ (E U) (hr.make C us []) (hh I2 hq)
  (I2.fR.make C us []) (hb _ (Value.ref (hp.objs.size+1)::us) I2.bg hl) r2 hq) λr s' hq'=>?_))
 cases r with
 |error e=>exact hx Y U _ _ e s' I2 hq'
 |ok fl=>
  cases fl with
  |ret u=>
   obtain⟨v,H',J,rv,ev,q⟩:=I2.after hq';subst ev;obtain rfl:u=Value.none:=rv;exact⟨rfl,.ref _,H',J,rfl,q⟩
  |next=>exact False.elim hq'
  |brk=>exact False.elim hq'
  |cont=>exact False.elim hq'
def tN (M:Ef X.K C f)(F:cE c X.prog X.w X.K X.mg X.base CX k f fd ps sp)(hh:∀ {Y:GD}{U:St}{H:Hp}{s:Shared}{vs:List V}{Q:VK}{E:XK},Inv X Y U H s->sp vs H Q E->sL c X.A.handled H) (hr:bb (k+1) X.A) (hg:Gl X x) (hm:X.mg x=some (.ref C)) (hb:Binds X.K fd ps ds) (hd:Vals dvs ds) (hx:Passes CX X E)
  (ha:PA X (e::es) t) (hdb:(x ==("__debug__":Str))=false:=by decide) (he:bm (e::es) X.env=(false,eval e X.env)::bm es X.env:=by rfl) (hpl:(backTo pos (bm es X.env)).any (·.1)=false:=by rfl):
  PE X (.Call (.Name x p) (e::es) [] pos) (vK C sp dvs E t):=by
 intro Y s U H Q I h;refine bv (aV I hg hm ?_ hdb);refine W.callWith_K (h₀:=X.base) I.ok.mod.kin M.kp (ar (ha pos Y s U H _ I h) λus s1 ⟨vs,H1,I1,r,z,q⟩=>⟨I1.bg,?_⟩) he hpl;exact jJ M F hh hr hb hd hx (by rw[nil_append,<-r.length];exact Nat.le_of_lt (dZ z)) I1 r q
structure BP (K:W.Frag) (C:Addr):Prop where
 mks:bB K C=true
 init:W.findIn K (.ref C) "__init__"=some (some (.builtin "ValueError.__init__"))
 kp:W.keepIn K (.ref C)=true
 cls:b9 K C
abbrev xQ (C:Addr)(t:TA):TE:=λU H Q=>t U H λvs H1=>vs.length=1/\∀ x,H1 x=none->Q (.ref x) (upd H1 x (.exc C none [] true))
def nZ {Q:VK}(M:BP X.K C)(I:Inv X Y U H s)(r:Vals vs us)(h1:vs.length=1)(h:∀ x,H x=none->Q (.ref x) (upd H x (.exc C none [] true))):
  wpAny (model X.prog X.w) X.A (call (.ref C) us) (EP X Y U Q) X.xe s:=by
 have hq:=h (s.heap.objs.size+1) (I.hok.fresh (Nat.le_succ _));have I2:=Inv.zj (C:=C) us I;obtain⟨u,rfl⟩:∃ u,us=[u]:=by
  have e:=r.length;rw[h1]at e
  match us,e with
  | [u],_=>exact⟨u,rfl⟩
 obtain⟨hh,g,d,tk,os⟩:=s;refine wpAny_call (yR I.bg (by rw[sizeLine_eq];exact nw rfl) M.mks M.init (hW (C:=C) (dx:=none) (fs:=[]) (fr:=true) I2 aj M.cls λs' J=>?_));exact⟨rfl,.ref _,_,J,rfl,hq⟩
def tH (M:BP X.K C)(hg:Gl X x)(hm:X.mg x=some (.ref C))(ha:PA X (e::es) t)(hdb:(x ==("__debug__":Str))=false:=by decide) (he:bm (e::es) X.env=(false,eval e X.env)::bm es X.env:=by rfl) (hpl:(backTo pos (bm es X.env)).any (·.1)=false:=by rfl):
  PE X (.Call (.Name x p) (e::es) [] pos) (xQ C t):=by
 intro Y s U H Q I h;refine bv (aV I hg hm ?_ hdb);refine W.callWith_K (h₀:=X.base) I.ok.mod.kin M.kp (ar (ha pos Y s U H _ I h) λus s1 ⟨vs,H1,I1,r,z,q⟩=>⟨I1.bg,?_⟩) he hpl;exact nZ M I1 r z q
structure FW (K:W.Frag) (B:Addr):Prop where
 ga:W.specialIn K (.ref B) "__getattribute__"=some (some (.builtin "type.__getattribute__"))
 rd:W.readsIn K B (.type "type")=true
 fi:W.findCls K (.ref B) (.type "type") "__init__"=some (.val (.builtin "ValueError.__init__"))
abbrev Ew (K:W.Frag)(t:TA):TE:=λU H Q=>t U H λvs H1=>∃ a C dx fs fr v,vs=[.ref a,v]/\H1 a=some (.exc C dx fs fr)/\b9 K C/\Q .non H1
def Ac {B:Addr}{pl:Sem Bool}{np:Pos}(b:FW X.K B)(hg:Gl X x)(hm:X.mg x=some (.ref B))(ha:PA X (e::es) t)(hdb:(x ==("__debug__":Str))=false:=by decide)
  (hst:bm (e::es) X.env=(false,eval e X.env)::bm es X.env:=by rfl) (hpl:(backTo pos (bm es X.env)).any (·.1)=false:=by rfl)
  (ht:eval (.Call (.Attribute (.Name x np) "__init__" apos) (e::es) [] pos) X.env=(do
   let ov <-eval (.Name x np) X.env
   standAt apos.atName
   let(f,first) <-holding [ov] (getMethod ov "__init__" pl)
   callWith pos f first (backTo pos (bm (e::es) X.env)) (backToKw pos (keywordEach [] X.env))):=by rfl):
  PE X (.Call (.Attribute (.Name x np) "__init__" apos) (e::es) [] pos) (Ew X.K t):=by
 intro Y s U H Q I h;refine W.methodCall_KW (pl:=pl) (aV I hg hm ?_ hdb) ht;refine W.method_cls I.bg b.ga (W.cls_value I.bg b.rd b.fi (by decide+kernel) ?_);refine PyProof.Rows.callWith_builtin1 (ar (ha pos Y _ U H _ (I.tok _) h) λus s1 ⟨vs,H1,I1,r,a,C,dx,fs,fr,v,ev,ea,c,q⟩=>?_) hst hpl;subst ev;cases r with
 |cons r1 r2=>
  cases r2 with
  |cons r3 r4=>
   cases r4;cases r1;exact nz I1 ea c λs' J=>⟨.non,H1,J,rfl,q⟩
structure Gz (K:W.Frag) (C f:Addr):Prop where
 ga:W.specialIn K (.ref C) "__getattribute__"=some (some (.builtin "type.__getattribute__"))
 rd:W.readsIn K C (.type "type")=true
 fi:W.findCls K (.ref C) (.type "type") "__init__"=some (.val (.ref f))
 kp:W.keepIn K (.ref f)=true
end
section
open PySem.Builtin PySem.Builtin.ObjectAttr
variable {prog:Program}{w:World}{A:Around}{E:GC}{s:Shared}{K:W.Frag}{x C:Addr}{ox:Obj}{odo:Option Obj}
structure sV (K:W.Frag) (C:Addr):Prop where
 ha:W.findIn K (.ref C) "__class__"=some (some (.builtin "object.__class__"))
 hn:W.specialIn K (.builtin "object.__class__") "__get__"=some (some (.builtin "getset_descriptor.__get__"))
 htk:W.takesIn K (.builtin "object.__class__")=some true
def xG {Q:GA}(X:K.In s.heap)(I:W.InstAt s.heap x ox C odo)(c:b9 K C)(z:sV K C)(hfo:W.findObj K C odo "__class__"=some (.bind (.builtin "getset_descriptor.__get__") (.builtin "object.__class__")))
  (h:Q (some (.ref C)) { s with toks:=s.toks+1 }):wpAny (model prog w) A (getAttr? (.ref x) "__class__") Q E s:=by
 obtain⟨hp,g,d,t,os⟩:=s;have L0:=I.type (M:=model prog w);have L1:=looks_findIn (M:=model prog w) X c.ga;have L2':=looks_findIn (M:=model prog w) X c.gn;have L3:=looks_find (M:=model prog w) X I hfo;have L4:Looks (model prog w) hp (isInstance (.ref x) (.type "BaseException")) true:=I.type.andThen (looks_mroIn X (c.sub (by decide+kernel)));unfold getAttr? getAttrBy? getAttrBy;refine ad (wpAny_mkText (ad (wpAny_attempt (bd (ad (L0.at (ad (L1.at ?_))))))));have e1:(Value.builtin "BaseException.__getattribute__" ==Value.builtin "object.__getattribute__")=false:=by decide+kernel
 dsimp only;rw[e1,Bool.and_false];show wpAny _ _ (getAttrByItsOwn _ _ _ _ _ _) _ _ _;unfold getAttrByItsOwn hookBefore;refine ad (L2'.at ?_);refine ad (wpAny_attempt (bd ?_));unfold callGetattribute;show wpAny _ _ (boundAndCalled _ _ _) _ _ _;unfold boundAndCalled;rw[PySem.F.attr_ValueError.ga.bind];refine ad (am (wpAny_call (codeAny_call_builtin PySem.F.attr_ValueError.ga.plain PySem.F.entry_bexc_ga ?_)));refine @check_slot (model prog w) _ _ _ "BaseException.__getattribute__" "BaseException" "__getattribute__" (.ref x) [.str "__class__" t] [] _ lV jM L4 (PySem.F.args_bexc_ga (.ref x) (.str "__class__" t)) ?_;unfold Builtin.«object.__getattribute__»;refine ad (am (ad (am (ad (L0.at (ad (L3.at ?_)))))));show wpAny _ _ (holding [_] (call _ [_,.ref x,.ref C]) >>= ret) _ _ _;refine ad (bd (wpAny_call (class_get (s:=⟨hp,g,d,t+1,os⟩) (ox:=ox) (od:=odo) X I (c.sub (by decide+kernel)) ?_)));refine am ?_;show wpAny _ _ (handedOut (.ref C)) _ _ _;exact handed_on rfl (am h)
def uE (c:b9 K C)(z:sV K C):W.findObj K C odo "__class__"=some (.bind (.builtin "getset_descriptor.__get__") (.builtin "object.__class__")):=by
 obtain⟨cd,hc,_⟩:=W.any_some c.hd;unfold W.findObj;rw[hc,Option.bind_some,z.ha,Option.bind_some];simp[z.hn,z.htk]
def mD (c:b9 K C)(z:sV K C):W.KitX K (.ref x) (.ref C) (λh=>W.InstAt h x ox C odo) where
 ty:=λ_ _ _ I=>I.type
 it:=λ_ _ X _=>by
  obtain⟨cdD,hcD,_⟩:=W.any_some c.hd;unfold W.clsIn at hcD
  split at hcD
  .rename_i c' d' cd' sl' ho;intro A' Q' E' s' k q;unfold isType loadHead;exact ad (wpAny_loadPart (k _ _ (X _ _ ho)) (am q))
  .cases hcD
 ne:=λh tp dd its n sl X htp=>by
  obtain⟨cdD,hcD,_⟩:=W.any_some c.hd;refine Bool.eq_false_iff.mpr λq=>?_
  have e:C=tp:=Value.ref.inj (beq_iff_eq.mp q);subst e;unfold W.clsIn at hcD
  split at hcD
  .rename_i c' d' cd' sl' ho;have z:=(X _ _ ho).symm.trans htp;cases z
  .cases hcD
 ca:=λX I k=>xG X I c z (uE c z) k
end
section
variable {X:Cx}{Y:GD}{U:St}{H:Hp}{s:Shared}{a C:Addr}{dx:Option Addr}{fs:List (Str×V)}{fr:Bool}
def ml (I:Inv X Y U H s)(e:H a=some (.exc C dx fs fr)):∃ ox odo,W.InstAt s.heap a ox C odo:=by
 obtain⟨⟨vs,ho,_⟩,z⟩:=id (I.hok a _ e);rcases z with⟨rfl,_⟩|⟨d,rfl,_,_,_,mA,⟨od,es,ep,hod,_⟩,_⟩
 .exact⟨_,none,ho,rfl,rfl,True.intro⟩
 .exact⟨_,some od,ho,rfl,rfl,hod⟩
def vj {E:GC}{Q:GC}{cv:Value}{b:Bool}(I:Inv X Y U H s)(e:H a=some (.exc C dx fs fr))(c:b9 X.K C)(z:sV X.K C)(k:W.kitOne X.K (.ref C) cv=some b)
  (h:∀ tk,Q (.bool b) { s with toks:=tk }):wpAny (model X.prog X.w) A (call (.builtin "isinstance") [.ref a,cv]) Q E s:=by
 obtain⟨ox,odo,J⟩:=ml I e;exact W.kia_one (mD (ox:=ox) (odo:=odo) c z) I.bg J k (λz=>nomatch z) h
end
end L2
namespace L2
open PySem PySem.Spec PySem.W PyProof.Rows
variable {dx:Option Addr}
section
variable {X:Cx}{f:Str}{o value ex:Expr}{ta tv te:TE}{pos pos':Pos}{E:St->XK}
def nP {h:Heap}{a:Addr}{C:Addr}{vs:Array Value}{M:Model}(ho:h.get? a=some { cls:=.ref C,dict:=dx,data:=.fields vs }):W.Looks M h (isType (.ref a)) false:=by
 intro A Q E s k q;unfold isType loadHead;exact ad (wpAny_loadPart (k _ _ ho) (am q))
abbrev BS (K:W.Frag)(E:St->XK)(te:TE):TS:=λD U H=>te U H λv H1=>∃ a C dx fs,v=.ref a/\H1 a=some (.exc C dx fs true)/\b9 K C/\E U a (upd H1 a (.exc C dx fs false))
def vN (hx:zY X E)(hc:X.calm=true)(he:PE X ex te):PS X (.Raise (some ex) none pos) (BS X.K E te):=by
 intro Y s U H D I h;rw[arm_exec_Raise];simp only[evalOpt,Option.map];refine ad (wpAny_standAt ?_);unfold raiseStmt;refine ad (ad (ar (he Y s U H _ I h) λu s1 ⟨y,H1,I1,ry,a,C,dx,fs,ey,ea,c,q⟩=>ad (wpAny_standAt (am ?_))));subst ey;obtain rfl:u=Value.ref a:=ry;obtain⟨⟨vs,ho,hsz,h1,h2⟩,z⟩:=id (I1.hok a _ ea);have h1':=h1 rfl;have hq:X.xe (.ref a) s1:=by
  have J:Inv X [] U (upd H1 a (.exc C dx fs false)) s1:=by
   have J1:=I1.nO.write (x:=a) (e:=a) (o:=.exc C dx fs false) (t':=s1.toks) (h':=s1.heap) (by rw[ea];exact rfl) (.inl rfl) (λ_ _ _ q=>q) ⟨_,ho⟩ ?_
   .exact J1
   .refine⟨⟨vs,ho,hsz,(λy=>by cases y),h2⟩,?_⟩;rcases z with z|⟨d,ed,d1,z1,ne,r⟩
    .exact .inl z
    .exact .inr ⟨d,ed,by rw[af ne];exact d1,z1,ne,r⟩
  exact hx U _ s1 a C dx fs J (.inl ⟨_,vs,ho,rfl,h1'⟩) aj q
 obtain⟨hp,g,d,tk,os⟩:=s1;have L0:Looks (model X.prog X.w) hp (typeOf (.ref a)) (.ref C):=(Looks.ld ho).andThen .now;have L1:Looks (model X.prog X.w) hp (isType (.ref a)) false:=nP ho;have L2':Looks (model X.prog X.w) hp (isInstance (.ref a) (.type "BaseException")) true:=L0.andThen (looks_mroIn I1.bg (c.sub (by decide+kernel)));have L5:Looks (model X.prog X.w) hp (typeOf (.ref C)) (.type "type"):=looks_typeIn I1.bg c.mt;have tt:(Value.type "type" ==Value.type "type")=true:=by decide
 repeat(first|simp only[Bool.false_eq_true,if_false,if_true,tt]|lk)
 rw[h1'];refine am ?_;rw[if_neg (by decide)];exact am (wpAny_raiseNew_none (I1.ok.hd hc) hq)
end
@[reducible]def Cx.aF (X:Cx) (e:Value):Cx:={ X with A:=X.A.mark (some e),calm:=false,xe:=λ_ _=>False }
variable {xe:GC}{ps:GD}{D:Ends}
section
variable {X:Cx}{Y:GD}{U:St}{H:Hp}{s:Shared}
def Cx.Ok.aF (ok:X.Ok)(e:Value):(X.aF e).Ok:=
 ⟨ok.mod,ok.kind,ok.glob,ok.blt,ok.above,ok.inj,ok.has,ok.cab,(λz=>by cases z),ok.frames,ok.stk,ok.exf,ok.bs,ok.bsz,ok.noex,ok.exfs,ok.gi,ok.frf⟩
def Inv.aF (I:Inv X Y U H s)(e:Value):Inv (X.aF e) Y U H s:=⟨I.ok.aF e,I.os,I.bare,I.base,I.loc,I.cell,I.free,I.freeC,I.pin,I.hok,I.len⟩
def Inv.gL {e:Value}(ok:X.Ok)(I:Inv (X.aF e) Y U H s):Inv X Y U H s:=⟨ok,I.os,I.bare,I.base,I.loc,I.cell,I.free,I.freeC,I.pin,I.hok,I.len⟩
def dW {M:Model}{A:Around}{E:GC}{Q:GB}{i:Nat}{n:Str}{pos:Pos}(I:Inv X Y U H s)(hN:X.N.Nodup)(hi:X.N[i]? =some n)(hn:X.env.scope.names.lookup n=some .local)
  (h:∀ s',Inv X Y (U.set i none) H s'->Q () s'):wpAny M A (do bindName X.env n .none;unbindBehindTheSuite X.env n pos) Q E s:=by
 have hcls:(X.env.scope.kind ==.class||(X.env.scope.kind ==.module&&X.env.locals != X.env.globals))=false:=by rw[I.ok.kind];rfl
 refine ad (wpAny_bindName (fO I hN hi (.inl hn) (v:=.non) rfl (λs1 I1=>?_) (.inr hn)));obtain⟨m,hm,hl⟩:=I1.loc;unfold unbindBehindTheSuite;refine wpAny_onRaise ?_;unfold unbindName;refine ad (wpAny_point (ad ?_));unfold deleteName;have hk:X.env.kindOf n=some .local:=hn;have hiσ:i<U.length:=by rw[I.len];exact(sw.mp hi).1
 have hmn:(m n).isSome=true:=by
  obtain⟨u,_,l⟩:=hl i n .non hi (by rw[getElem?_set_self hiσ]) (.inl hn);rcases l with⟨_,q⟩|⟨q,_⟩
  .rw[q];rfl
  .rcases q with q|q<;>(rw[hk]at q;cases q)
 simp only[hk,hcls];rw[if_neg (by decide)];refine ad (wpAny_nsDel_keeps hm λh2 v hn2 hs2=>?_);rw[hmn];simp only[if_true,Bool.not_true,Bool.false_eq_true,if_false];refine am (wpAny_point (h { s1 with heap:=h2 } ?_));obtain⟨oL,esL,epL,hoL,_⟩:=id hm;have uu:=I1.uu;refine⟨I1.ok,I1.os,I1.bare,⟨λb o e n hb hx=>?_,λb o e n hb hx=>?_,I1.base.free,λb o e hx=>?_,I1.base.tups,I1.base.frzs,I1.base.tbls⟩,⟨_,hn2,λj y v' e1 e2 e3=>?_⟩,λy c e=>?_,I1.free,I1.freeC,λp hp=>?_,λa u ha=>?_,by rw[length_set];exact I.len⟩
 .exact(hs2.2 b (pc (nb (tz e) I1.ok.above))).trans (I1.base.keep b o e n hb hx)
 .obtain⟨sl,q⟩:=I1.base.slot b o e n hb hx;exact⟨sl,(hs2.2 b (pc (nb (tz e) I1.ok.above))).trans q⟩
 .obtain⟨o',q⟩:=I1.base.there b o e hx;exact⟨o',(hs2.2 b (pc (nb (tz e) I1.ok.above))).trans q⟩
 .have hj:j≠i:=λz=>by rw[z,getElem?_set_self hiσ]at e2;cases e2
  rw[getElem?_set_ne (Ne.symm hj)]at e2;obtain⟨u,r,q⟩:=hl j y v' e1 (by rw[getElem?_set_ne (Ne.symm hj)];exact e2) e3;refine⟨u,r,?_⟩;rcases q with⟨k,e⟩|⟨k,c,e,z⟩
  .refine .inl ⟨k,?_⟩;have ny:y≠n:=λz=>hj (iO hN e1 (z▸hi))
   show(if y=n then v else m y)=some u;rw[if_neg ny];exact e
  .exact .inr ⟨k,c,e,z.sameBut hs2 (uu y c e)⟩
 .obtain⟨w',z⟩:=I1.cell y c e;exact⟨w',z.sameBut hs2 (uu y c e)⟩
 .obtain⟨e,n,ne,nf,d⟩:=I1.pin p hp;exact⟨(hs2.2 p.1 ne).trans e,n,ne,nf,d⟩
 .refine(I1.hok a u ha).c9 (λb o hb hq=>(hs2.2 b ?_).trans hq) (λ_ q=>q) λ_ _ q=>q
  rintro rfl;rcases hb with hb|hb
  .rw[<-hb,I1.free]at ha;cases ha
  .rw[I1.free]at hb;cases hb
@[reducible]def Cx.eU (X:Cx) (Y:GD) (xe:GC):Cx:={ X with pn:=X.pn++Y,xe:=xe }
def Cx.Ok.eU (ok:X.Ok)(Y:GD)(xe:GC):(X.eU Y xe).Ok:=
 ⟨ok.mod,ok.kind,ok.glob,ok.blt,ok.above,ok.inj,ok.has,ok.cab,ok.hd,ok.frames,ok.stk,ok.exf,ok.bs,ok.bsz,ok.noex,ok.exfs,ok.gi,ok.frf⟩
def Inv.eU (I:Inv X Y U H s)(xe:GC):Inv (X.eU Y xe) [] U H s:=
 ⟨I.ok.eU Y xe,I.os,I.bare,I.base,I.loc,I.cell,I.free,I.freeC,λp hp=>I.pin p (by simpa using hp),I.hok,I.len⟩
def Inv.eO (ok:X.Ok)(I:Inv (X.eU Y xe) ps U H s):Inv X Y U H s:=
 ⟨ok,I.os,I.bare,I.base,I.loc,I.cell,I.free,I.freeC,λp hp=>I.pin p (mem_append_left _ hp),I.hok,I.len⟩
def SP.eO {f:Flow}(ok:X.Ok)(h:SP (X.eU Y xe) ps D f s):SP X Y D f s:=by
 cases f with
 |next=>obtain⟨σ',H',I,q⟩:=h;exact⟨σ',H',I.eO ok,q⟩
 |brk=>obtain⟨σ',H',I,q⟩:=h;exact⟨σ',H',I.eO ok,q⟩
 |cont=>obtain⟨σ',H',I,q⟩:=h;exact⟨σ',H',I.eO ok,q⟩
 |ret u=>obtain⟨v,σ',H',I,r,q⟩:=h;exact⟨v,σ',H',I.eO ok,r,q⟩
def AX {body:List Stmt}{h0:ExceptHandler}{hs:List ExceptHandler}{pos:Pos}{E':St->XK}(I:Inv X Y U H s)(hstk:X.stack=X.env::X.outer)(hfr:X.env.frame=some X.env.locals)
  (hb:∀ xe,zY (X.eU Y xe) E'->PassesOwn (model X.prog X.w) X.A X.env xe->wpAny (model X.prog X.w) X.A (execs body X.env) (SP (X.eU Y xe) [] D) xe s)
  (hh:∀ (U:St) (H:Hp) (s:Shared) (e C:Addr) (dx:Option Addr) (fs:List (Str×V)) (T:Addr),Inv X Y U H s->H e=some (.exc C dx fs false)->X.s₀.heap.objs.size<=T->H T=none->(∀ p ∈ X.pn++Y,p.1≠T)->so s.heap e T .none->E' U e H->
   wpAny (model X.prog X.w) X.A (handleBy (.ref e) X.env (h0::hs)) (SP X Y D) X.xe s):
  wpAny (model X.prog X.w) X.A (exec (.Try body (h0::hs) [] [] pos) X.env) (SP X Y D) X.xe s:=by
 refine wpAny_Try_except (wpAny_mono (hb (λu s1=>wpAny (model X.prog X.w) X.A (noteFrame u X.env) (λ_ s2=>wpAny (model X.prog X.w) X.A (setFlight u none) (λ_ s3=>wpAny (model X.prog X.w) X.A (handleBy u X.env (h0::hs)) (SP X Y D) X.xe s3) X.xe s2) X.xe s1) ?_ PassesOwn.looking) (λf s1 h1=>?_) λ_ _ z=>z)
 .intro σ' H' s' e C dx fs J sf he q;exact jK (X:=X.eU Y _) J hstk hfr sf he λs2 T J2 _ hT hH hp st=>hh σ' H' s2 e C dx fs T (J2.eO I.ok) he hT hH hp st q
 .have h2:=SP.eO I.ok h1;cases f with
  |next=>exact wpAny_execs_nil h2
  |brk=>exact h2
  |cont=>exact h2
  |ret u=>exact h2
def lF {n x:Str}{np hpos:Pos}{b0:Stmt}{aF:List Stmt}{rest:List ExceptHandler}{i:Nat}{e C Ch T:Addr}{fs:List (Str×V)}{b:Bool}(I:Inv X Y U H s)(he:H e=some (.exc C dx fs false))
  (hT:X.s₀.heap.objs.size<=T) (hH:H T=none) (hp:∀ p ∈ X.pn++Y,p.1≠T) (st:so s.heap e T .none) (c:b9 X.K C) (ch:b9 X.K Ch) (hsub:W.mroIn X.K C (.ref Ch)=some b) (hg:Gl X x) (hm:X.mg x=some (.ref Ch))
  (hN:X.N.Nodup) (hi:X.N[i]? =some n) (hn:X.env.scope.names.lookup n=some .local) (hdb:(x ==("__debug__":Str))=false)
  (yes:b=true->∀ s2,Inv (X.aF (.ref e)) Y (U.set i (some (.ref e))) H s2->wpAny (model X.prog X.w) (X.A.mark (some (.ref e))) (execs (b0::aF) X.env)
   (SP (X.aF (.ref e)) Y { nx:=λσ' H'=>D.nx (σ'.set i none) H',rt:=D.rt,bk:=λσ' H'=>D.bk (σ'.set i none) H',ct:=λσ' H'=>D.ct (σ'.set i none) H' }) (λ_ _=>False) s2)
  (no:b=false->wpAny (model X.prog X.w) X.A (handleBy (.ref e) X.env rest) (SP X Y D) X.xe s):
  wpAny (model X.prog X.w) X.A (handleBy (.ref e) X.env (.ExceptHandler (some (.Name x np)) (some n) (b0::aF) hpos::rest)) (SP X Y D) X.xe s:=by
 have I':=I.aF (.ref e);refine wpAny_handleBy_cons (codeAny_handlers_test (aV (X:=X.aF (.ref e)) I' hg hm ?_ hdb)) (by intro q;cases q);obtain⟨⟨vs,ho,hsz,h1⟩,z⟩:=id (I.hok e _ he);have L0:Looks (model X.prog X.w) s.heap (typeOf (.ref e)) (.ref C):=(Looks.ld ho).andThen .now;have L1:Looks (model X.prog X.w) s.heap (typeOf (.ref Ch)) (.type "type"):=looks_typeIn I.bg ch.mt;have L2':Looks (model X.prog X.w) s.heap (isInstance (.ref Ch) (.type "tuple")) false:=L1.andThen (Looks.of_pure tc_notTuple);have L3:Looks (model X.prog X.w) s.heap (isType (.ref Ch)) true:=by
  obtain⟨cd,rs,hcl,_⟩:=ch.mro;unfold W.clsIn at hcl
  split at hcl
  .rename_i ho';intro A' Q' E' s' k q;unfold isType loadHead;exact ad (wpAny_loadPart (k _ _ (I.bg _ _ ho')) (am q))
  .cases hcl
 have L4:Looks (model X.prog X.w) s.heap (isSubtype (.ref Ch) (.type "BaseException")) true:=looks_mroIn I.bg (ch.sub (by decide+kernel));have L5:Looks (model X.prog X.w) s.heap (isSubtype (.ref C) (.ref Ch)) b:=looks_mroIn I.bg hsub;have L6:Looks (model X.prog X.w) s.heap (isExcClass (.ref Ch)) true:=by
  unfold isExcClass;exact L3.andThen L4
 unfold excMatches;refine ad (L2'.here ?_);rw[if_neg (by decide)];refine ad (am ?_);simp only[forIn_cons,forIn_nil];refine ad (ad (ad (L6.here ?_)));rw[if_neg (by decide)];refine am ?_;refine am ?_;refine ad (L0.here ?_);refine ad (ad (ad (L5.here ?_)));cases b with
 |false=>
  rw[if_neg (by decide)];refine am ?_;refine am ?_;refine am ?_;exact no rfl
 |true=>
  rw[if_pos rfl];refine am ?_;refine am ?_;refine am ?_;refine codeAny_handlers_suite_as (pH st λh2 k8 oth _ th2 _=>?_);have I2:Inv X Y U H { s with heap:=h2 }:=by
   refine Inv.turned (it:=T) (h':=h2) (t':=s.toks) I (λb o hb hq=>(oth b hb).trans hq) hH ?_ (.inr hT) (λy cc hc z=>?_) hp
   .intro z;obtain⟨m,⟨o,es,ep,ho',hd,_⟩,_⟩:=I.loc;obtain⟨_,_,oT,ts,_,_,_,_,hT2,hd2,_⟩:=st;rw[z,ho']at hT2;cases hT2;rw[hd]at hd2;cases hd2
   .obtain⟨v,o,ho',hd⟩:=I.cell y cc hc;obtain⟨_,_,oT,ts,_,_,_,_,hT2,hd2,_⟩:=st;rw[<-z,ho']at hT2;cases hT2;rw[hd]at hd2;cases hd2
  refine fO (X:=X.aF (.ref e)) (I2.aF (.ref e)) hN hi (.inl hn) (v:=.ref e) rfl (λs3 I3=>?_) (.inr hn);refine wpAny_mono (yes rfl s3 I3) (λf s4 h4=>?_) λ_ _ z=>z.elim
  cases f with
  |next=>
   obtain⟨σ',H',J,q⟩:=h4;exact dW (J.gL I.ok) hN hi hn λs5 J5=>⟨_,H',J5,q⟩
  |brk=>
   obtain⟨σ',H',J,q⟩:=h4;exact dW (J.gL I.ok) hN hi hn λs5 J5=>⟨_,H',J5,q⟩
  |cont=>
   obtain⟨σ',H',J,q⟩:=h4;exact dW (J.gL I.ok) hN hi hn λs5 J5=>⟨_,H',J5,q⟩
  |ret u=>
   obtain⟨v,σ',H',J,r,q⟩:=h4;exact dW (J.gL I.ok) hN hi hn λs5 J5=>⟨v,_,H',J5,r,q⟩
end
end L2
namespace L2
open PySem PySem.Spec PyProof.Rows
def tW:bootBuiltins "isinstance"=some (.builtin "isinstance"):=by decide+kernel
section
variable {X:Cx}
abbrev C1 (K:W.Frag):V->V->Hp->VK->Prop:=λx y H Q=>∃ p xs i v,x=.ref p/\y=.int i/\aN K H p xs/\0<=i/\xs[i.toNat]? =some v/\Q v H
def vf:zR X (C1 X.K):=by
 intro Y s U H o i ov iv Q I ro ri h;obtain⟨p,xs,k,z,rfl,rfl,hq,h0,he,q⟩:=h;cases ro;obtain⟨t,rfl⟩:=ri;obtain⟨its,r,pl,hz⟩:=I.list hq;obtain⟨w,ew,rw'⟩:=r.get he;have hl:k.toNat<xs.length:=(sw.mp he).1;have hn:=eK;exact wpAny_getItem_list pl.isList h0 nofun (by simpa using ew) ⟨z,H,I,rw',q⟩
def gT {xs:List V}{us:List Value}(r:Vals xs us){j:Nat}(h:j<us.toArray.size):∃ x,xs[j]? =some x/\RelV x (us.toArray[j]):=by
 have hl:=r.length;have hj:j<us.length:=by simpa using h
 have e:xs[j]? =some xs[j]:=le nofun;obtain⟨u,h1,h2⟩:=r.get e;refine⟨_,e,?_⟩;rw[le hj]at h1;cases h1;simpa using h2
end
section
variable {U:St}{H:Hp}{Q:VK}{D:Ends}{K:W.Frag}
abbrev nj (x:V)(H:Hp)(R:Bool->Hp->Prop):Prop:=∃ k,x=.bl k/\R k H
def aY {α:Type}{xs:List α}{i:Int}(h0:0<=i)(h1:i<xs.length):∃ v,jc xs i=some v/\v ∈ xs:=by
 obtain⟨n,rfl⟩:=sn h0;have hn:n<xs.length:=by omega
 exact⟨xs[n],gN (le hn),getElem_mem hn⟩
end
section
variable {K:W.Frag}{g:TG}{tb:TS}{D:Ends}{U:St}{H:Hp}{tl:TE}{ta:TA}
end
def fits {n:Nat}(h:n<=1000):n<=bn:=Nat.le_of_lt (dZ h)
section
variable {X:Cx}{H:Hp}{Q:VK}
end
section
variable {K:W.Frag}
end
section
variable {H H':Hp}{h c p:Addr}{m n:Int}{o:HO}
end
def CG (ns:List Int)(h:ns.length<=63):f6 (ns.map V.int) none (some 63)=ns.map V.int:=by
 have e1:HT.k7 (ns.map V.int).length 0 none=0:=rfl;have e2:HT.k7 (ns.map V.int).length (ns.map V.int).length (some 63)=(ns.map V.int).length:=by
  show(if(63:Int)<0 then((63:Int)+((ns.map V.int).length:Int)).toNat else min (63:Int).toNat (ns.map V.int).length)=(ns.map V.int).length;rw[if_neg (by decide),ce];show min 63 ns.length=ns.length
  omega
 unfold f6;rw[e1,e2,drop_zero,Nat.sub_zero,List.take_length]
variable {ns:List Int}
def nA {i:Nat}{x:V}(h:(ns.map V.int)[i]? =some x):∃ z,x=V.int z:=by
 rw[im]at h;cases e:ns[i]? with
 |none=>rw[e]at h;cases h
 |some z=>rw[e]at h;exact⟨z,(Option.some.inj h).symm⟩
def vn {i:Int}(h0:0<=i)(h1:i<ns.length):∃ z,jc (ns.map V.int) i=some (.int z):=by
 obtain⟨v,a,m⟩:=aY (xs:=ns.map V.int) h0 (by rw[ce];exact h1);obtain⟨z,_,rfl⟩:=List.mem_map.mp m;exact⟨z,a⟩
section
variable {H:Hp}{Q:VK}
end
section
variable {X:Cx}
end
abbrev zO (X:Cx)(scope:Scope)(cl:List (Str×Addr))(N:List Str)(s:Shared)(H:Hp)(fp:List Addr)(xe:GC):Cx:=
 { X with N:=N,s₀:=s,H₀:=H,env:=compEnvC scope cl s.heap.objs.size X.env,outer:=X.stack,stack:=X.stack,ex:=fp,fn:=λ_=>false,xe:=xe }
abbrev Gb (X:Cx)(E:XK)(u:Value)(s':Shared):Prop:=∃ (σ':St) (H':Hp) (e C:Addr) (dx:Option Addr) (fs:List (Str×V)),u=.ref e/\Inv X [] σ' H' s'/\tG X.s₀.heap.objs.size X.pn H' s'.heap e/\H' e=some (.exc C dx fs false)/\E e H'
abbrev dc (X:Cx)(scope:Scope)(cl:List (Str×Addr))(N:List Str)(s:Shared)(H:Hp)(fp:List Addr)(E:XK):Cx:=zO X scope cl N s H fp (Gb (zO X scope cl N s H fp λ_ _=>False) E)
variable {X:Cx}{scope:Scope}{cl:List (Str×Addr)}{s:Shared}{H:Hp}{fp:List Addr}{E:XK}
def pF {N:List Str}:zY (dc X scope cl N s H fp E) (λ_=>E):=λσ' H' s' e C dx fs I sf he q=>
 ⟨σ',H',e,C,dx,fs,rfl,⟨⟨I.ok.mod,I.ok.kind,I.ok.glob,I.ok.blt,I.ok.above,I.ok.inj,I.ok.has,I.ok.cab,I.ok.hd,I.ok.frames,I.ok.stk,I.ok.exf,I.ok.bs,I.ok.bsz,I.ok.noex,I.ok.exfs,I.ok.gi,I.ok.frf⟩,I.os,I.bare,I.base,I.loc,I.cell,I.free,I.freeC,I.pin,I.hok,I.len⟩,sf,he,q⟩
structure aM (X:Cx) (scope:Scope) (cl:List (Str×Addr)) (xs:List Str) (fr:List Str) (sel:List Nat):Prop where
 clos:closureFor scope X.env=pure cl
 sub:∀ y c,cl.lookup y=some c->X.env.cells.lookup y=some c
 has:∀ y,((relabel scope X.env).names.lookup y=some .cell\/(relabel scope X.env).names.lookup y=some .free)->∃ c,cl.lookup y=some c
 kind:scope.kind=.function
 nocell:∀ y ∈ scope.names,y.2≠.cell
 names:∀ y ∈ scope.names,y.2=.local->scope.names.lookup y.1=some .local
 own:∀ x ∈ xs,scope.names.lookup x=some .local
 len:sel.length=fr.length
 out:∀ (j:Nat) (y:Str),fr[j]? =some y->∃ i,sel[j]? =some i/\X.N[i]? =some y/\X.env.scope.names.lookup y=some .cell/\(relabel scope X.env).names.lookup y=some .cell
 nd:(xs++fr).Nodup
abbrev eC (U:St)(sel:List Nat):St:=sel.map λi=>U.getD i none
abbrev LC (te:TE)(J:It)(σ₀:St)(H1:Hp)(Q:VK):Prop:=∀ D,H1 D=none->∃ W:Nat->Nat->St->Hp->Prop,(∃ m,W 0 m σ₀ (upd H1 D (.lst [])))/\∀ i m σ' H',W i m σ' H'->
 (J.stop i H'/\Q (.ref D) H')\/(J.go i H'/\∃ N:St->Hp->Prop,(∀ σ2 H2,N σ2 H2->∃ m',m'<m/\W (i+1) m' σ2 H2)/\
  ∀ x H'',J.yld i H' x H''->te (σ'.set 0 (some x)) H'' λv H3=>∃ zs,H3 D=some (.lst zs)/\zs.length<bn/\N (σ'.set 0 (some x)) (upd H3 D (.lst (zs++[v]))))
abbrev gate (env:Env):List Expr->Sem Bool
 | []=>pure true
 |c::_=>isTrue c env (eval c env)
variable {ifs:List Expr}{pos:Pos}
def qj {M:Model}{A:Around}{elt target iter:Expr}{it acc:Value}{env:Env}{Q:PySem.Fin->Shared->Prop}{E:GC}(hi:ifs.length<=1)
  (h:wpAny M A (pyNext it) (λr s1=>match r with
   |none=>Q (.done .next) s1
   |some v=>wpAny M A (letOwnedTupleGo target it v) (λ_ s2=>wpAny M A (assign target env v) (λ_ s3=>wpAny M A (gate env ifs) (λok s4=>
    (ok=true->wpAny M A (eval elt env) (λx s5=>wpAny M A (call (.builtin "list.append") [acc,x]) (λ_ s6=>wpAny M A (again (.compLoop (.ListComp elt [⟨target,iter,ifs,0⟩] scope pos) 0 it acc env)) Q E s6) E s5) E s4)/\
    (ok=false->wpAny M A (again (.compLoop (.ListComp elt [⟨target,iter,ifs,0⟩] scope pos) 0 it acc env)) Q E s4)) E s3) E s2) E s1) E s):
  wpAny M A (compTurn (.ListComp elt [⟨target,iter,ifs,0⟩] scope pos) 0 it acc env) Q E s:=by
 have key:∀ {g:Sem Bool}{K:Sem PySem.Fin}{s:Shared},wpAny M A g (λok s4=>
    (ok=true->wpAny M A (eval elt env) (λx s5=>wpAny M A (call (.builtin "list.append") [acc,x]) (λ_ s6=>wpAny M A K Q E s6) E s5) E s4)/\
    (ok=false->wpAny M A K Q E s4)) E s->wpAny M A (g >>= λok=>if ok=true then(eval elt env >>= λx=>call (.builtin "list.append") [acc,x] >>= λ_=>pure ()) >>= λ_=>K else K) Q E s:=λ{g K s} h=>by
  refine ad (wpAny_mono h (λok s4 h4=>?_) λ_ _ e=>e);cases ok with
  |false=>exact h4.2 rfl
  |true=>exact ad (ad (wpAny_mono (h4.1 rfl) (λx s5 h5=>ad (wpAny_mono h5 (λ_ s6 h6=>am h6) λ_ _ e=>e)) λ_ _ e=>e))
 match ifs,hi with
 | [],_=>
  rw[compTurn_list1];refine ad (wpAny_standAt (ad (wpAny_mono h (λr s1 h1=>?_) λ_ _ e=>e)));cases r with
  |none=>exact am h1
  |some v=>
   refine ad (wpAny_mono h1 (λ_ s2 h2=>ad (wpAny_mono h2 (λ_ s3 h3=>?_) λ_ _ e=>e)) λ_ _ e=>e);exact key (g:=pure true) h3
 | [c],_=>
  unfold compTurn;simp only[List.getElem?_cons_zero,List.getElem?_cons_succ,List.getElem?_nil];dsimp only[forIn,List.forIn',List.forIn'.loop,forIn'];rw[if_neg (by decide),if_neg (by decide)];refine ad (wpAny_standAt (ad (wpAny_mono h (λr s1 h1=>?_) λ_ _ e=>e)));cases r with
  |none=>exact am h1
  |some v=>
   refine ad (wpAny_mono h1 (λ_ s2 h2=>ad (wpAny_mono h2 (λ_ s3 h3=>?_) λ_ _ e=>e)) λ_ _ e=>e);refine key ?_;rw[if_pos rfl];refine ad (ad (wpAny_mono h3 (λok s4 h4=>am ?_) λ_ _ e=>e));exact am h4
abbrev LCg (tg:TG)(tc:TT)(te:TE)(J:It)(σ₀:St)(H1:Hp)(Q:VK):Prop:=∀ D,H1 D=none->∃ W:Nat->Nat->St->Hp->Prop,(∃ m,W 0 m σ₀ (upd H1 D (.lst [])))/\∀ i m σ' H',W i m σ' H'->
 (J.stop i H'/\Q (.ref D) H')\/(J.go i H'/\∃ N:St->Hp->Prop,(∀ σ2 H2,N σ2 H2->∃ m',m'<m/\W (i+1) m' σ2 H2)/\
  ∀ x H'',J.yld i H' x H''->tg x σ' H'' λσ2 H2=>tc σ2 H2 λb H3=>(b=true->te σ2 H3 λv H4=>∃ zs,H4 D=some (.lst zs)/\zs.length<bn/\N σ2 (upd H4 D (.lst (zs++[v]))))/\(b=false->N σ2 H3))
abbrev yes:TT:=λ_ H Q=>Q true H
variable {te:TE}
def LC.g {J:It}{σ₀:St}{H1:Hp}{Q:VK}(h:LC te J σ₀ H1 Q):LCg (fM 0) yes te J σ₀ H1 Q:=λD hD=>by
 obtain⟨W,w0,turn⟩:=h D hD;refine⟨W,w0,λi m σ' H' w=>?_⟩;rcases turn i m σ' H' w with z|⟨go,N,hN,step⟩
 .exact .inl z
 .exact .inr ⟨go,N,hN,λx H'' y=>⟨λ_=>step x H'' y,λe=>nomatch e⟩⟩
abbrev Em (X:Cx)(ifs:List Expr)(tc:TT):Prop:=ifs.length<=1/\∀ (Y:GD) (s:Shared) (U:St) (H:Hp) (Q:Bool->Hp->Prop),Inv X Y U H s->tc U H Q->wpAny (model X.prog X.w) X.A (gate X.env ifs) (TP X Y U Q) X.xe s
def km:Em X [] yes:=⟨Nat.zero_le _,λY s U H Q I q=>am ⟨H,I,q⟩⟩
def xP {c:Expr}{tc:TT}(h:PT X c tc):Em X [c] tc:=⟨pi _,h⟩
abbrev m9 (xs:List Str):St:=xs.map λ_=>none
abbrev FZ (wi:TI)(te:TE)(sel:List Nat):TE:=λU H Q=>wi U H λJ H1=>LC te J (none::eC U sel) H1 Q
abbrev C3 (wi:TI)(tg:TG)(tc:TT)(te:TE)(xs:List Str)(sel:List Nat):TE:=λU H Q=>wi U H λJ H1=>LCg tg tc te J (m9 xs++eC U sel) H1 Q
variable {xs fr:List Str}{sel:List Nat}{Y:GD}{U:St}{ok:Cx->Prop}
section
variable {X:Cx}
def Un.sameBut {fs ex:List Addr}{H':Hp}{h h1 h2:Heap}{C:Addr}(u:Un fs ex H H' h h1)(hs:Heap.SameBut C h1 h2)(hC:h.objs.size<=C):Un fs ex H H' h h2:=by
 have ne:∀ b o,h.get? b=some o->b≠C:=λb o e=>pc (nb (tz e) hC)
 refine⟨λb o e n hb hx=>(hs.2 b (ne b o e)).trans (u.keep b o e n hb hx),λb o e n hb hx=>?_,u.free,λb o e hx=>?_,u.tups,u.frzs,u.tbls⟩
 .obtain⟨sl,q⟩:=u.slot b o e n hb hx;exact⟨sl,(hs.2 b (ne b o e)).trans q⟩
 .obtain⟨o',q⟩:=u.there b o e hx;exact⟨o',(hs.2 b (ne b o e)).trans q⟩
def mR {h':Heap}{tk:Nat}{m':GF}
  (S:aM X scope cl xs fr sel) (I:Inv X Y U H s) (f2:∀ b ∈ fp,fE X Y H b) (fo:∀ b ∈ fp,b<s.heap.objs.size) (hns:h'.Ns s.heap.objs.size m') (keep:∀ b o,s.heap.get? b=some o->h'.get? b=some o):
  Inv (dc X scope cl (xs++fr) s H fp E) Y (m9 xs++eC U sel) H { s with heap:=h',toks:=tk }:=by
 have stk:∀ b,b≠X.env.locals->b ∉ X.fs->b ∉ ky X.stack:=λb h1 h2 hb=>(lv.mp (I.fW b hb)).elim h1 h2
 refine⟨⟨I.ok.mod,S.kind,I.ok.glob,I.ok.blt,pi _,λy z c h1 h2=>I.ok.inj y z c (S.sub y c h1) (S.sub z c h2),λy hy=>S.has y hy,(λy c h=>nomatch h),I.ok.hd,I.ok.frames,.inl rfl,λb hb=>⟨pc (fo b hb),λy c h=>(f2 b hb).2.2.2.2.1 y c (S.sub y c h)⟩,I.bs,
  Nat.le_trans I.ok.bsz I.sz,λb o e hb=>?_,λb hb=>stk b (f2 b hb).2.1 (f2 b hb).2.2.1,I.stack,I.jX⟩,
  rfl,I.bare,Un.kept keep,⟨m',hns,λi y v e1 e2 e3=>?_⟩,λy c h=>?_,I.hok.fresh (pi _),λy c h=>I.freeC y c (S.sub y c h),λp hp=>?_,I.hok.kept keep,?_⟩
 .rcases(f2 b hb).2.2.2.1 with z|z
  .exact I.ok.noex b o e z
  .exact absurd (nb (nb (tz e) I.ok.bsz) z) (Nat.lt_irrefl _)
 .have hln:(m9 xs).length=xs.length:=ce ..
  by_cases hlt:i<xs.length
  .rw[List.getElem?_append_left (by rw[hln];exact hlt)]at e2;unfold m9 at e2;rw[im,le hlt]at e2;cases e2
  .obtain⟨j,rfl⟩:∃ j,i=xs.length+j:=⟨i-xs.length,by omega⟩;have e1':fr[j]? =some y:=by
    have e1:(xs++fr)[xs.length+j]? =some y:=e1;rw[getElem?_append_right nofun,show xs.length+j-xs.length=j by omega]at e1;exact e1
   obtain⟨i,hi,hN,k1,k2⟩:=S.out j y e1';have e2':(eC U sel)[j]? =some (some v):=by
    rw[getElem?_append_right (by rw[hln];omega),hln,show xs.length+j-xs.length=j by omega]at e2;exact e2
   have e4:U[i]? =some (some v):=by
    unfold eC at e2';rw[im,hi]at e2';have e5:U.getD i none=some v:=Option.some.inj e2';rw[List.getD_eq_getElem?_getD]at e5;cases e6:U[i]? with
    |none=>rw[e6]at e5;cases e5
    |some z=>rw[e6]at e5;exact congrArg some e5
   obtain⟨m,hn,hl⟩:=I.loc;obtain⟨u,r,l⟩:=hl i y v hN e4 (.inr (.inl k1));refine⟨u,r,.inr ⟨.inl k2,?_⟩⟩;rcases l with⟨hk,_⟩|⟨_,c,hc,o,ho,hd⟩
   .have hk':X.env.scope.names.lookup y=some .local:=hk;rw[k1]at hk';cases hk'
   .obtain⟨c',hc'⟩:=S.has y (.inl k2);have:=(S.sub y c' hc').symm.trans hc;cases this;exact⟨c,hc',o,keep c o ho,hd⟩
 .obtain⟨v,o,ho,hd⟩:=I.cell y c (S.sub y c h);exact⟨v,o,keep c o ho,hd⟩
 .obtain⟨e,n,ne,nf,d⟩:=I.pin p hp;exact⟨keep p.1 p.2 e,n,pc (tz e),stk p.1 ne nf,d⟩
 .show(m9 xs++eC U sel).length=(xs++fr).length;unfold eC m9;simp[S.len]
structure jn (X:Cx) (U:St) (E:XK):Prop where
 xok:∀ (H:Hp) (s:Shared) (e C:Addr) (dx:Option Addr) (fs:List (Str×V)),Inv X [] U H s->tG X.s₀.heap.objs.size X.pn H s.heap e->H e=some (.exc C dx fs false)->E e H->X.xe (.ref e) s
 stk:∃ e0 o0 L,X.stack=e0::o0/\e0.frame=some L/\X.env.frame=some L
abbrev FF (X:Cx)(U:St)(e:Expr)(t:TE):Prop:=∀ (Y:GD) (s:Shared) (H:Hp) (Q:VK),Inv X Y U H s->t U H Q->wpAny (model X.prog X.w) X.A (eval e X.env) (EP X Y U Q) X.xe s
def pA {s3:Shared}{H3:Hp}{D:Addr}{use:Option (Value->Sem Unit)}{P:GC}(hx:jn X U E)
  (I3:Inv X Y U H3 s3) (f3:∀ b ∈ fp,fE X Y H3 b) (u:Value) (s':Shared) (h:(dc X scope cl (xs++fr) s3 H3 fp E).xe u s'):
  notedBy (model X.prog X.w) X.A (compEnvC scope cl s3.heap.objs.size X.env) (λx s2=>compPost (model X.prog X.w) X.A X.xe use P (.ref D) s3.heap.objs.size (.error x) s2) u s':=by
 obtain⟨σ',H',e,C,dx,fs,rfl,I,sf,he,q⟩:=h;obtain⟨e0,o0,L,hs,hf0,hf⟩:=hx.stk;refine lC (X:=zO X scope cl (xs++fr) s3 H3 fp λ_ _=>False) (env:=compEnvC scope cl s3.heap.objs.size X.env) I hs hf0 hf sf he λh1 T I1 hT hH hp st=>?_
 obtain⟨m,hn,_⟩:=I1.loc;refine⟨m,hn,λh2 hs2 cenv _=>?_⟩;have fC:H' s3.heap.objs.size=none:=I1.free;have J:Inv X [] U H' { s' with heap:=h2 }:=by
  refine I3.nO.pG (ch:=fp) I1.os (I1.base.sameBut hs2 (pi _)) (λb ob eb=>?_) I1.bare λb hb=>⟨(f3 b hb).2.2.2.1,(f3 b hb).2.1,(f3 b hb).2.2.2.2.1,λp hp=>(f3 b hb).2.2.2.2.2 p (by simpa using .inl (by simpa using hp))⟩
  refine(I1.hok b ob eb).c9 (λc w' hc' q'=>(hs2.2 c ?_).trans q') (λ_ q'=>q') λ_ _ q'=>q'
  intro z;rcases hc' with z2|z2
  .rw[z2]at z;rw[z,fC]at eb;cases eb
  .rw[z,fC]at z2;cases z2
 obtain⟨oe,vs,oT,ts,he1,hd1,h11,hTe,hoT,hdT,h3⟩:=id st;obtain⟨n1,n2⟩:=I1.uw hoT hdT;have neC:e≠s3.heap.objs.size:=λz=>by rw[z,fC]at he;cases he
 have e2:=(hs2.2 e neC).trans he1;have t2:=(hs2.2 T n1).trans hoT;have hz:3<ts.size:=(Array.getElem?_eq_some_iff.mp h3).1;unfold PySem.passOn;refine ad (ap e2 hd1 h11 ?_);rw[if_neg (show ¬ ((Value.ref T ==Value.none)=true) from by simp)];have fly:wpAny (model X.prog X.w) X.A (setFlight (.ref e) cenv.frame) (λ_ s3=>wpAny (model X.prog X.w) X.A (throw (Value.ref e):Sem Value) (λ_ _=>False) X.xe s3) X.xe { s' with heap:=h2 }:=by
  unfold setFlight;refine ad (ap e2 hd1 h11 ?_);rw[if_pos (show(Value.ref T != Value.none)=true from by simp)];refine wpAny_setField t2 hdT hz (wpAny_throw ?_);have other:∀ b,b≠T->(h2.update T (Obj.mapFields (·.setIfInBounds 3 (cenv.frame.elim Value.none λf=>rawInt f)))).get? b=h2.get? b:=λb hb=>Heap.get?_update_other _ _ (Ne.symm hb)
  have self':=Heap.get?_update_self (Obj.mapFields (·.setIfInBounds 3 (cenv.frame.elim Value.none λf=>rawInt f))) t2 (Obj.isFreed_of_fields (Obj.data_mapFields hdT _));obtain⟨k1,k2⟩:=J.uw t2 hdT;have hT':X.s₀.heap.objs.size<=T:=Nat.le_trans I3.sz hT;refine hx.xok H' _ e C dx fs (J.turned (it:=T) (t':=s'.toks) (λb o hb hq=>(other b hb).trans hq) hH k1 (.inr hT') k2 λp hpp=>hp p (show p ∈ X.pn by simpa using hpp)) (.inr ⟨T,hT',hH,hp,_,⟨oe,vs,_,_,(other e (Ne.symm hTe)).trans e2,hd1,h11,hTe,self',Obj.data_mapFields hdT _,by simp[hz];rfl⟩⟩) he q
 first
  |exact ad fly
  |exact ad (am (ad fly))
def sr {elt iter tgt:Expr}{wi:TI}{tg:TG}{tc:TT}(hc:∀ {Y:GD}{U:St}{H:Hp}{s:Shared}{fp:List Addr},Inv X Y U H s->ok (dc X scope cl (xs++fr) s H fp E)) (hx:jn X U E) (S:aM X scope cl xs fr sel) (hi:yV ok X tgt iter wi)
  (hg:∀ (s:Shared) (H:Hp) (fp:List Addr),PG (dc X scope cl (xs++fr) s H fp E) tgt tg) (ht:∀ (s:Shared) (H:Hp) (fp:List Addr),Em (dc X scope cl (xs++fr) s H fp E) ifs tc)
  (he:∀ (s:Shared) (H:Hp) (fp:List Addr),PE (dc X scope cl (xs++fr) s H fp E) elt te) (hs:∀ x,foldedSetIterable iter X.env x=pure x):FF X U (.ListComp elt [⟨tgt,iter,ifs,0⟩] scope pos) (C3 wi tg tc te xs sel):=by
 intro Y s H Q I h;rw[eval_ListComp];refine wpAny_comprehension_free (use:=none) rfl hs S.clos S.kind S.names ?_;refine ar (hi Y s U H _ I h) λv s1 h1=>ar h1 λitv s2 h2=>?_
 obtain⟨it,fp,tn,J,H2,e,I2,T,k8,f2,h2⟩:=h2;subst e;refine wpAny_newObj_type ?_;have hD:H2 s2.heap.objs.size=none:=I2.hok.fresh (pi _);have I3:Inv X Y U (upd H2 s2.heap.objs.size (.lst [])) { s2 with heap:=s2.heap.push { cls:=.type "list",dict:=none,data:=.seq ([]:List Value).toArray } }:=
  I2.laid (t':=s2.toks) (λb u e=>sK _ e) (pi _) ⟨Nat.zero_le _,[],0,.nil,ul _ rfl⟩
 have fo2:∀ b ∈ fp,b<s2.heap.objs.size:=λb hb=>by
  obtain⟨o,ho,_⟩:=T.obj _ _ k8 b hb;exact tz ho
 have f3:∀ b ∈ fp,fE X Y (upd H2 s2.heap.objs.size (.lst [])) b:=λb hb=>⟨by rw[af (pc (fo2 b hb))];exact(f2 b hb).1,(f2 b hb).2⟩
 have st3:tn 0 (s2.heap.push { cls:=.type "list",dict:=none,data:=.seq ([]:List Value).toArray }):=T.keep _ _ _ k8 λb hb o e=>sK _ e
 have fo3:∀ b ∈ fp,b<(s2.heap.push { cls:=.type "list",dict:=none,data:=.seq ([]:List Value).toArray }).objs.size:=λb hb=>by
  rw[Heap.size_push];exact Nat.lt_succ_of_lt (fo2 b hb)
 obtain⟨W,⟨m0,w0⟩,turn⟩:=h2 _ hD;generalize s2.heap.objs.size=D at*;generalize hs3:({ s2 with heap:=s2.heap.push { cls:=.type "list",dict:=none,data:=.seq ([]:List Value).toArray } }:Shared)=s3 at*;have st3':tn 0 s3.heap:=by rw[<-hs3];exact st3
 have fo3':∀ b ∈ fp,b<s3.heap.objs.size:=by rw[<-hs3];exact fo3
 refine wpAny_newFunctionEnv S.nocell (by intro y hy;simp at hy) (λh' hns hsb=>?_) S.kind;have keep:∀ b o,s3.heap.get? b=some o->h'.get? b=some o:=λb o e=>(hsb.2 b (pc (tz e))).trans (sK _ e)
 have I4:=mR (E:=E) (tk:=s3.toks+([]:List (Str×Value)).length) S I3 f3 fo3' hns keep;have st4:tn 0 h':=T.keep _ _ _ st3' λb hb o e=>keep b o e
 have stat:∀ {H':Hp},(∀ b ∈ fp,H' b=none)->∀ b ∈ fp,fE (dc X scope cl (xs++fr) s3 (upd H2 D (.lst [])) fp E) Y H' b:=λ{H'} hn b hb=>
  ⟨hn b hb,pc (fo3' b hb),λz=>(lv.mp (I3.fW b z)).elim (f3 b hb).2.1 (f3 b hb).2.2.1,.inl hb,λy c hy=>(f3 b hb).2.2.2.2.1 y c (S.sub y c hy),λp hp=>(f3 b hb).2.2.2.2.2 p hp⟩
 have loop:codeAny (model X.prog X.w) X.A (.compLoop (.ListComp elt [⟨tgt,iter,ifs,0⟩] scope pos) 0 (.ref it) (.ref D) (compEnvC scope cl s3.heap.objs.size X.env))
   (compPost (model X.prog X.w) X.A X.xe none (EP X Y U Q) (.ref D) s3.heap.objs.size) { s3 with heap:=h',toks:=s3.toks+([]:List (Str×Value)).length }:=by
  refine codeAny_loop rfl (λn s'=>∃ i σ' H',Inv (dc X scope cl (xs++fr) s3 (upd H2 D (.lst [])) fp E) Y σ' H' s'/\tn i s'.heap/\(∀ b ∈ fp,H' b=none)/\W i n σ' H') (λn s5 hI=>?_) m0 ⟨0,_,_,I4,st4,λb hb=>(f3 b hb).1,w0⟩;show wpAny _ _ ((compTurn (.ListComp elt [⟨tgt,iter,ifs,0⟩] scope pos) 0 (.ref it) (.ref D) (compEnvC scope cl s3.heap.objs.size X.env)).onRaise (λx=>do noteFrame x (compEnvC scope cl s3.heap.objs.size X.env);theTreesLotGoes x)) _ _ s5;refine wpAny_noted ?_;refine qj (ht s3 (upd H2 D (.lst [])) fp).1 ?_;have bad:=pA (scope:=scope) (cl:=cl) (xs:=xs) (fr:=fr) (P:=EP X Y U Q) (use:=none) (D:=D) hx I3 f3;obtain⟨i,σ5,H5,I5,st5,fr5,w5⟩:=hI;rcases turn i n σ5 H5 w5 with⟨stop,q⟩|⟨go,Nn,hN,step⟩
  .refine ar (T.done (dc X scope cl (xs++fr) s3 (upd H2 D (.lst [])) fp E) rfl rfl rfl (hc I3) i _ s5 σ5 H5 _ I5 (stat fr5) st5 stop) λr s6 ⟨hr,I6⟩=>?_
   subst hr;obtain⟨m,hn,_⟩:=I6.loc;refine⟨m,hn,λh'' hs''=>⟨.ref D,H5,I3.pG (ch:=fp) I6.os (I6.base.sameBut hs'' (pi _)) (λb ob e=>?_) I6.bare λb hb=>⟨(f3 b hb).2.2.2.1,(f3 b hb).2.1,(f3 b hb).2.2.2.2.1,(f3 b hb).2.2.2.2.2⟩,rfl,q⟩⟩;refine(I6.hok b ob e).c9 (λc w' hc' q'=>(hs''.2 c ?_).trans q') (λ_ q'=>q') λ_ _ q'=>q'
   have fC:H5 s3.heap.objs.size=none:=I6.free;intro z;rcases hc' with z2|z2
   .rw[z2]at z;rw[z,fC]at e;cases e
   .rw[z,fC]at z2;cases z2
  .have fin:∀ {σ8:St}{H10:Hp}{s10:Shared},Inv (dc X scope cl (xs++fr) s3 (upd H2 D (.lst [])) fp E) Y σ8 H10 s10/\tn (i+1) s10.heap/\(∀ b ∈ fp,H10 b=none)->Nn σ8 H10->∃ m',m'<n/\∃ i σ' H',Inv (dc X scope cl (xs++fr) s3 (upd H2 D (.lst [])) fp E) Y σ' H' s10/\tn i s10.heap/\(∀ b ∈ fp,H' b=none)/\W i m' σ' H':=λ⟨I,t,f⟩ nn=>by
    obtain⟨m',hm,w10⟩:=hN _ _ nn;exact⟨m',hm,i+1,_,_,I,t,f,w10⟩
   refine ar (T.item (dc X scope cl (xs++fr) s3 (upd H2 D (.lst [])) fp E) rfl rfl rfl (hc I3) i _ s5 σ5 H5 _ I5 (stat fr5) st5 go) λr s6 ⟨u,hr,h6⟩=>?_
   subst hr;refine ar h6 λ_ s7 ⟨xv,H7,I7,r7,y7,st7,fr7⟩=>?_
   have I7':=I7.pinned (stat fr7) (T.obj _ _ st7);refine wpAny_mono (hg s3 _ fp _ s7 σ5 H7 xv u _ I7' r7 (step xv _ y7)) (λ_ s8 ⟨σ8,H8,I8,q8⟩=>?_) bad;refine wpAny_mono ((ht s3 _ fp).2 _ s8 σ8 H8 _ I8 q8) (λok s9 ⟨H9,I9,q9⟩=>?_) bad;have back:∀ {H10:Hp}{s10:Shared},Inv (dc X scope cl (xs++fr) s3 (upd H2 D (.lst [])) fp E) _ σ8 H10 s10->Inv (dc X scope cl (xs++fr) s3 (upd H2 D (.lst [])) fp E) Y σ8 H10 s10/\tn (i+1) s10.heap/\(∀ b ∈ fp,H10 b=none):=λ{H10 s10} I10=>⟨I10.dw,T.keep _ _ _ st7 λb hb o e=>(I10.pin (b,o) (ii _ (ii _ (bq hb e)))).1,λb hb=>by
    obtain⟨o,e,d⟩:=T.obj _ _ st7 b hb;exact(I10.pin (b,o) (ii _ (ii _ (bq hb e)))).2.1⟩
   refine⟨λek=>?_,λek=>am ⟨rfl,fin (back I9) (q9.2 ek)⟩⟩;refine wpAny_mono (he s3 _ fp _ s9 _ _ _ I9 (q9.1 ek)) (λuv s10 ⟨vv,H10,I10,r10,zs,hz,hzl,n10⟩=>?_) bad;refine wpAny_mono (fQ (X:=dc X scope cl (xs++fr) s3 (upd H2 D (.lst [])) fp E) _ s10 _ H10 (.ref D) [vv] (.ref D) [uv] (λ_ H'=>H'=upd H10 D (.lst (zs++[vv]))) I10 rfl (.cons r10 .nil) ⟨D,zs,vv,rfl,rfl,hz,hzl,rfl⟩) (λ_ s11 ⟨_,H11,I11,_,e11⟩=>?_) bad;subst e11;exact am ⟨rfl,fin (back I11) n10⟩
 exact codeAny_compStart_list loop (T.self _ 0 _ _ _ st4 loop)
def pe {x:Str}{px:Pos}(S:aM X scope cl [x] fr sel):PG (dc X scope cl ([x]++fr) s H fp E) (.Name x px) (fM 0):=ft S.nd rfl (.inl (lookup_relabel_local (S.own x (li ..)))) (.inr (lookup_relabel_local (S.own x (li ..))))
abbrev Gq (wi:TI):TI:=λU H R=>∃ R0:It->Hp->Prop,wi U H R0/\∀ J H,R0 J H->R J H
def yV.up {tg iter:Expr}{wi:TI}(h:yV ok X tg iter wi):yV ok X tg iter (Gq wi):=λY s U H R I ⟨R0,q,m⟩=>
 ar (h Y s U H R0 I q) λv s1 h1=>wpAny_mono h1 (λitv s2 ⟨it,fp,tn,J,H',e,I,T,t0,f,r⟩=>⟨it,fp,tn,J,H',e,I,T,t0,f,m _ _ r⟩) λ_ _ e=>e
def mz {elt iter:Expr}{x:Str}{px:Pos}{wi:TI}(hc:∀ {Y:GD}{U:St}{H:Hp}{s:Shared}{fp:List Addr},Inv X Y U H s->ok (dc X scope cl (x::fr) s H fp E)) (hx:jn X U E) (S:aM X scope cl [x] fr sel) (hi:yV ok X (.Name x px) iter wi)
  (he:∀ (s:Shared) (H:Hp) (fp:List Addr),PE (dc X scope cl (x::fr) s H fp E) elt te) (hs:∀ x,foldedSetIterable iter X.env x=pure x):FF X U (.ListComp elt [⟨.Name x px,iter,[],0⟩] scope pos) (FZ wi te sel):=λY s H Q I h=>
 sr (tg:=fM 0) (ok:=ok) hc hx S hi.up (λs H fp=>pe S) (λ_ _ _=>km) he hs Y s H Q I ⟨_,h,λ_ _ q=>q.g⟩
end
section
variable {U:St}{H:Hp}{Q:VK}{te tl:TE}{ta:TA}{sel:List Nat}{σ₀ rest:St}{K:W.Frag}
end
def cM {env:Env}:∀ {names:List (Str×NameKind)}{y:Str}{k':NameKind},(names.map λ(n,k)=>if(k ==NameKind.free&&env.scope.kind ==.function&&env.kindOf n ==some .cell) then(n,NameKind.cell) else(n,k)).lookup y=some k'->∃ k,(y,k) ∈ names/\(k'=k\/(k=.free/\k'=.cell))
 | [],_,_,h=>by simp at h
 |(n,k)::r,y,k',h=>by
  rw[map_cons,lookup_cons]at h
  by_cases hc:(k ==NameKind.free&&env.scope.kind ==.function&&env.kindOf n ==some .cell)=true
  .simp only[hc,if_true]at h
   by_cases e:y=n
   .subst e;simp at h;simp at hc;exact⟨k,li,.inr ⟨hc.1.1,h.symm⟩⟩
   .rw[show(y ==n)=false from beq_eq_false_iff_ne.mpr e]at h;obtain⟨k2,m,q⟩:=cM (env:=env) h;exact⟨k2,dl _ m,q⟩
  .rw[Bool.not_eq_true]at hc;simp only[hc,Bool.false_eq_true,if_false]at h
   by_cases e:y=n
   .subst e;simp at h;exact⟨k,li,.inl h.symm⟩
   .simp only[show(y ==n)=false from beq_eq_false_iff_ne.mpr e]at h;obtain⟨k2,m,q⟩:=cM (env:=env) h;exact⟨k2,dl _ m,q⟩
section
variable {K:W.Frag}
end
section
variable {K:W.Frag}{H:Hp}
end
section
variable {U:St}{H:Hp}{Q:VK}
end
abbrev notStar:Expr->Bool
 | .Starred ..=>false
 |_=>true
variable {es:List Expr}
def ab {e:Expr}{env:Env}(h:notStar e=true):bm (e::es) env=(false,eval e env)::bm es env:=by
 cases e<;>first|rfl|cases h
def fu {e:Expr}{t:TA}(ha:PE X e te)(hr:PA X es t)(h:notStar e=true:=by rfl):PA X (e::es) (zI te t):=xB ha hr (ab h)
section
variable {X:Cx}{Y:GD}{U:St}{H:Hp}{s:Shared}{h':Heap}
def Inv.mK {t':Nat}{ch:List Addr}{a:Addr}{o:HO}(I:Inv X Y U H s)(k:∀ b u,b ∉ ch->s.heap.get? b=some u->h'.get? b=some u) (hf:∀ b ∈ ch,fE X Y H b)
  (hp:s.heap.objs.size<=a) (new:ak X.prog X.w (upd H a o) h' a o):Inv X Y U (upd H a o) { s with heap:=h',toks:=t' }:=by
 have hn:H a=none:=I.hok.fresh hp;have nch:∀ b u,H b=some u->b ∉ ch:=λb u e z=>by rw[(hf b z).1]at e;cases e
 refine I.step (g':=s.gens) (d':=s.drawn) (ch:=ch) (λb hb=>?_) (λb o _ _ hc e _=>k b o hc e) (λb o _ _ hc e _=>⟨o.slots,k b o hc e⟩) (λb o hc e n=>?_)
  (λb o hc e=>⟨o,k b o hc e⟩) (λb xs e=>?_) (λb ob u e=>?_) (λb ps e=>?_) (λm hm=>?_) (λb u e=>?_) I.bare
 .obtain⟨_,f1,_,f3,f4,f5⟩:=hf b hb;exact⟨f3,f1,f4,f5⟩
 .rw[af (pc (nb (tz e) hp))];exact n
 .rw[af (aA e hn)];exact e
 .rw[af (aA e hn)];exact e
 .exact⟨#[],by rw[af (aA e hn),e];simp⟩
 .obtain⟨o,es,ep,ho,r⟩:=hm;exact⟨o,es,ep,k _ o (λz=>(hf _ z).2.1 rfl) ho,r⟩
 .by_cases hb:b=a
  .subst hb;rw[aj]at e;cases e;exact new
  .rw[af hb]at e;refine(I.hok b u e).c9 (λc v hc q=>k c v ?_ q) (λc q=>by rw[af (aA q hn)];exact q) λc xs q=>by rw[af (aA q hn)];exact q
   rcases hc with rfl|hc
   .exact nch _ _ e
   .exact nch _ _ hc
end
abbrev DG (l:Addr):It:=
 ⟨λi H=>∃ xs x,H l=some (.lst xs)/\xs[i]? =some x,λi H x H'=>∃ T y,H T=none/\x=.ref T/\H'=upd H T (.tup [.int i,y])/\∀ xs,H l=some (.lst xs)->xs[i]? =some y,λi H=>∃ xs,H l=some (.lst xs)/\xs.length<=i⟩
variable {elts:List Expr}
def rL {P:Program}{w:World}{K:W.Frag}{k:Nat}(l e it:Addr)(hei:e≠it):
  Turn P w K Calm (.Tuple elts k pos) (DG l) [e,it] e (λi h=>(∃ old,IsEnum h e it ((i:Nat):Int) old)/\h.IsListIter it l i) where
 mem:=by simp
 obj:=λi h st b hb=>by
  obtain⟨⟨old,he⟩,hit⟩:=st;rcases lv.mp hb with rfl|hb
  .exact⟨_,he,λv z=>by
    have z':Data.fields _=Data.cell v:=z;cases z'⟩
  .have e':b=it:=by simpa using hb
   subst e';obtain⟨o,e,c,d⟩:=hit;exact⟨o,e,λv z=>by rw[d]at z;cases z⟩
 keep:=λi h h' st k=>by
  obtain⟨⟨old,he⟩,hit⟩:=st;exact⟨⟨old,k e (by simp) _ he⟩,hit.at λo q=>k it (by simp) o q⟩
 item:=by
  intro X hP hw hK hc i Y s U H E I hf st hg;subst hP hw hK;obtain⟨xs,x,hq,hx⟩:=hg;obtain⟨⟨old,he⟩,hit⟩:=st;obtain⟨its,rv,p,hz⟩:=I.list (aN.of hq);obtain⟨u,hu,ru⟩:=rv.get hx;have heN:H e=none:=(hf e (by simp)).1;have hes:e≠s.heap.objs.size:=pc (tz he);obtain⟨oi,hoi,_⟩:=id hit;have his:it≠s.heap.objs.size:=pc (tz hoi);refine wpAny_pyNext_enum_item he hit p.isList (x:=u) (by simpa using hu) hei λh1 heo hit1 ht1 hz1 hk1=>?_
  have I1:Inv X Y U (upd H s.heap.objs.size (.tup [.int i,x])) { s with heap:=h1,toks:=s.toks+1 }:=
   I.mK (ch:=[e,it]) (λb o hb q=>hk1 b o (λz=>hb (by simp[z])) (λz=>hb (by simp[z])) q) hf (pi _)
    ⟨fits (nw rfl),[.int i s.toks,u],.cons ⟨_,rfl⟩ (.cons ru .nil),⟨_,ht1,rfl,_,rfl⟩⟩
  refine⟨_,rfl,wpAny_letOwnedTupleGo_enum heo λh2 he2 hs2=>?_⟩;obtain⟨f0,f1,f2,f3,f4,f5⟩:=hf e (by simp);have I2:=I1.turned (h':=h2) (t':=s.toks+1) (it:=e) (λb o hb q=>(hs2.2 b hb).trans q) (by rw[af hes];exact heN) f1 f3 f4 f5;refine⟨.ref s.heap.objs.size,_,I2,rfl,⟨_,x,I.hok.fresh (pi _),rfl,rfl,λys hy=>?_⟩,⟨⟨_,by simpa using he2⟩,hit1.at λo q=>(hs2.2 it hei.symm).trans q⟩,λb hb=>?_⟩
  .rw[hq]at hy;cases hy;exact hx
  .have hb':b≠s.heap.objs.size:=by
    rcases lv.mp hb with rfl|hb
    .exact hes
    .have e':b=it:=by simpa using hb
     subst e';exact his
   rw[af hb'];exact(hf b hb).1
 done:=by
  intro X hP hw hK hc i Y s U H E I hf st hg;subst hP hw hK;obtain⟨xs,hq,hx⟩:=hg;obtain⟨⟨old,he⟩,hit⟩:=st;obtain⟨its,rv,p,hz⟩:=I.list (aN.of hq);obtain⟨f0,f1,f2,f3,f4,f5⟩:=hf it (by simp);have hl:=rv.length;exact wpAny_pyNext_enum_end (I.ok.hd hc) he hit p.isList (by simp;omega) λh' eb=>⟨rfl,I.turned (t':=s.toks) (λb o hb q=>eb b o hb q) f0 f1 f3 f4 f5⟩
 self:=λ_ _ _ _ _ st h=>by
  obtain⟨⟨old,he⟩,hit⟩:=st;exact wpAny_pyIter_enum he h
def kq:bootBuiltins "enumerate"=some (.type "enumerate"):=by decide+kernel
abbrev Cr (ta:TA):TI:=λU H R=>ta U H λvs H1=>∃ l,vs=[.ref l]/\(∃ xs,H1 l=some (.lst xs))/\R (DG l) H1
def vV {k:Nat}{a:Expr}{ta:TA}{p pos':Pos}(hg:Gl X "enumerate") (hm:X.mg "enumerate"=none) (ha:PA X [a] ta) (hs:bm [a] X.env=[(false,eval a X.env)]:=by rfl):
  PI X (.Tuple elts k pos') (.Call (.Name "enumerate" p) [a] [] pos) (Cr ta):=by
 intro Y s U H R I h;refine Call_ (cO I hg hm kq (PyProof.Rows.callWith_type1 (ar (ha pos Y s U H _ I h) λus s1 ⟨vs,H1,I1,r1,q1⟩=>?_) hs rfl));obtain⟨l,e,⟨xs,hl⟩,q⟩:=q1;subst e;cases r1 with
 |cons r rr=>
  cases rr;cases r;obtain⟨z,its,n,r,hlen,e⟩:=I1.lH hl;refine call_enumerate_1 e λh' he hit hsz hk=>?_
  refine wpAny_pyIter_enum he ?_;refine⟨s1.heap.objs.size+1,[s1.heap.objs.size+1,s1.heap.objs.size],_,_,H1,rfl,I1.kept (t':=s1.toks) hk,rL l _ _ (Nat.succ_ne_self _),⟨⟨_,he⟩,hit⟩,λb hb=>?_,q⟩;have hb':s1.heap.objs.size<=b:=by
   rcases lv.mp hb with rfl|hb
   .exact Nat.le_succ _
   .have e':b=s1.heap.objs.size:=by simpa using hb
    exact Nat.le_of_eq e'.symm
  exact I1.nQ hb' (I1.hok.fresh hb')
section
variable {g:TG}{tb:TS}{D:Ends}{U:St}{H:Hp}{ta:TA}
end
section
variable {X:Cx}
abbrev xV:V->List V->Hp->VK->Prop:=λx vs H Q=>∃ l xs i y,x=.ref l/\vs=[.int i,y]/\H l=some (.lst xs)/\0<=i/\i<=xs.length/\xs.length<bn/\Q .non (upd H l (.lst (xs.take i.toNat++y::xs.drop i.toNat)))
def Vals.take':∀ {xs:List V}{us:List Value}(n:Nat),Vals xs us->Vals (xs.take n) (us.take n)
 |_,_,0,_=>by simpa using Paired.nil
 |_,_,n+1,.nil=>.nil
 |_,_,n+1,.cons r t=>.cons r (Vals.take' n t)
def Vals.drop':∀ {xs:List V}{us:List Value}(n:Nat),Vals xs us->Vals (xs.drop n) (us.drop n)
 |_,_,0,r=>r
 |_,_,n+1,.nil=>.nil
 |_,_,n+1,.cons r t=>Vals.drop' n t
def rR:Fb X "list.insert" xV:=by
 intro Y s U H x vs v us Q I rx rv h;obtain⟨l,xs,i,y,rfl,rfl,hH,h0,h1,hz,q⟩:=h;cases rx;obtain⟨u,u2,rfl,ru,ru2⟩:=vals2 rv;obtain⟨t,rfl⟩:=ru;obtain⟨z,its,n,r,hl,e⟩:=I.lH hH;have hk:i.toNat<=its.length:=by omega
 have hn:=eK;have hfit:¬ (!Builtin.List.listFitsIndex i)=true:=by
  rw[fitsIndex_both (k:=i) nofun nofun]
  decide
 have hsz:its.toArray.size<=bn:=by rw[ge];omega
 have hmt:=AutoSeq1.list_insert_list_int_val_1 l its.toArray n i t u2 hfit hsz;refine call_meets F.slot_list_insert ⟨_,e,rfl⟩ F.entry_list_insert (F.args_list_insert_3 _ _ _) hmt ⟨e,?_⟩;refine⟨.non,_,I.A8 (its':=its.take i.toNat++u2::its.drop i.toNat) hH e ?_ ?_ ?_,rfl,q⟩
 .have ek:(if i<0 then(i+(its.toArray.size:Int)).toNat else min i.toNat its.toArray.size)=i.toNat:=by
   rw[if_neg nofun,ge];exact Nat.min_eq_left hk
  show((its.toArray.extract 0 (if i<0 then(i+(its.toArray.size:Int)).toNat else min i.toNat its.toArray.size)).push u2++its.toArray.extract (if i<0 then(i+(its.toArray.size:Int)).toNat else min i.toNat its.toArray.size))=_;rw[ek];apply Array.ext';simp;exact take_of_length_le (by rw[io];omega)
 .exact(Vals.take' i.toNat r).append (.cons ru2 (Vals.drop' i.toNat r))
 .rw[ci,length_cons,db,io]
  omega
end
section
variable {K:W.Frag}{r:V->List V->Hp->VK->Prop}{to:TE}{t:TA}{U:St}{H:Hp}{Q:VK}
end
section
variable {H H1 H2:Hp}{p h c:Addr}{o:HO}{m:Int}
end
section
variable {H H':Hp}{xs ys:List V}{f:Nat->Int×Int}
end
section
variable {X:Cx}{a b c d:Expr}{ta tb tc td:TE}{pos:Pos}
abbrev xK (r r' r2:R2)(ta tb tc td:TE):TE:=λU H Q=>ta U H λx H1=>tb U H1 λy H2=>r x y H2 λz H3=>nj z H3 λk H3=>
 (if k=true then tc U H3 λw' H4=>r' y w' H4 λz' H5=>nj z' H5 λk' H5=>(if k'=true then td U H5 λw2 H6=>r2 w' w2 H6 Q else Q (.bl false) H5) else Q (.bl false) H3)
def rC {op op' op2:CmpOp}{r r' r2:R2}(ho:bY X (compareOp op) r)(ho':bY X (compareOp op') r')(ho2:bY X (compareOp op2) r2)(ha:PE X a ta)(hb:PE X b tb)(hc:PE X c tc)(hd:PE X d td)
  (hm:lastMarks [op,op',op2] [b,c,d]=false:=by with_unfolding_all rfl):PE X (.Compare a [op,op',op2] [b,c,d] pos) (xK r r' r2 ta tb tc td):=by
 intro Y s U H Q I h;refine Compare_chain (ar (ha Y s U H _ I h) λv s1 ⟨x,H1,I1,r1,q1⟩=>chain_link (ar (hb Y s1 U H1 _ I1 q1) λu s2 ⟨y,H2,I2,r2',q2⟩=>
  ar (ho Y s2 U H2 x y v u _ I2 r1 r2' q2) λd s3 ⟨z,H3,I3,r3,k,e,q3⟩=>?_)) hm
 subst e;cases r3;refine bi ?_;cases k with
 |false=>exact ite_ff ⟨.bl false,H3,I3,rfl,q3⟩
 |true=>
  refine ite_tt (chain_link (ar (hc Y s3 U H3 _ I3 q3) λw' s4 ⟨z',H4,I4,r4,q4⟩=>ar (ho' Y s4 U H4 y z' u w' _ I4 r2' r4 q4) λd2 s5 ⟨z2,H5,I5,r5,k2,e2,q5⟩=>?_));subst e2;cases r5;refine bi ?_;cases k2 with
  |false=>exact ite_ff ⟨.bl false,H5,I5,rfl,q5⟩
  |true=>exact ite_tt (chain_last (ar (hd Y s5 U H5 _ I5 q5) λw2 s6 ⟨z3,H6,I6,r6,q6⟩=>ho2 Y s6 U H6 z' z3 w' w2 Q I6 r4 r6 q6))
end
section
variable {K:W.Frag}{U:St}{H:Hp}{Q:VK}{ta tb tc td tv:TE}{t:TA}{f m:Str}{D:Ends}{C:Addr}{sp:Sp}{dvs:List V}{E:XK}
end
section
variable {g:TG}{tb:TS}{D:Ends}{U:St}{H:Hp}{ta:TA}
end
section
variable {C:Addr}{H H':Hp}{S D h c:Addr}{rs:List Rec}{r:Rec}
end
section
variable {X:Cx}
end
end L2
namespace L2
end L2
namespace L2
open PySem PySem.Spec PyProof.Rows
section
variable {C:Addr}{H HF:Hp}{S D h c:Addr}{rs:List Rec}{r':Rec}
end
section
variable {X:Cx}
end
structure EL (K:W.Frag) (C:Addr):Prop where
 ha:W.findIn K (.ref C) "__class__"=some (some (.builtin "object.__class__"))
 hn:W.specialIn K (.builtin "object.__class__") "__get__"=some (some (.builtin "getset_descriptor.__get__"))
 htk:W.takesIn K (.builtin "object.__class__")=some true
 hm:W.mroIn K C (.type "object")=some true
end L2
namespace L2
open PySem PySem.Spec PySem.W PyProof.Rows
abbrev aK (tp:Bool)(h:Heap)(j b:Addr)(k:Nat):Prop:=match tp with
 |true=>h.IsTupleIter j b k
 |false=>h.IsListIter j b k
abbrev a9 (tp:Bool)(h:Heap)(b:Addr)(xs:Array Value):Prop:=match tp with
 |true=>h.IsTuple b xs
 |false=>h.IsList b xs
variable {tp:Bool}{h:Heap}{k:Nat}
def aK.to {h':Heap}{j b:Addr}(g:aK tp h j b k)(e:∀ o,h.get? j=some o->h'.get? j=some o):aK tp h' j b k:=by
 cases tp
 .obtain⟨o,e1,r⟩:=(show h.IsListIter j b k from g);exact⟨o,e o e1,r⟩
 .obtain⟨o,e1,r⟩:=(show h.IsTupleIter j b k from g);exact⟨o,e o e1,r⟩
def a9.to {h':Heap}{b:Addr}{xs:Array Value}(g:a9 tp h b xs)(e:∀ o,h.get? b=some o->h'.get? b=some o):a9 tp h' b xs:=by
 cases tp
 .obtain⟨o,e1,r⟩:=(show h.IsList b xs from g);exact⟨o,e o e1,r⟩
 .obtain⟨o,e1,r⟩:=(show h.IsTuple b xs from g);exact⟨o,e o e1,r⟩
def aK.lt {tp:Bool}{h:Heap}{j b:Addr}{k:Nat}(g:aK tp h j b k):j<h.objs.size:=by
 cases tp
 .obtain⟨o,e1,r⟩:=(show h.IsListIter j b k from g);exact tz e1
 .obtain⟨o,e1,r⟩:=(show h.IsTupleIter j b k from g);exact tz e1
def a9.lt {tp:Bool}{h:Heap}{b:Addr}{xs:Array Value}(g:a9 tp h b xs):b<h.objs.size:=by
 cases tp
 .obtain⟨o,e1,r⟩:=(show h.IsList b xs from g);exact tz e1
 .obtain⟨o,e1,r⟩:=(show h.IsTuple b xs from g);exact tz e1
variable {Q:GA}{c:Addr}{T:Int}{fb:Bool}{oT:Obj}{elts:List Expr}{pos:Pos}
section
variable {prog:Program}{w:World}{A:Around}{E:GC}{s:Shared}
def AR {j b:Addr}{xs:Array Value}{x:Value}{Q:GC}(g:s.heap.IsTupleIter j b k)(t:s.heap.IsTuple b xs)(hx:xs[k]? =some x)
  (q:∀ h',h'.IsTupleIter j b (k+1)->Heap.SameBut j s.heap h'->Q x { s with heap:=h' }):wpAny (model prog w) A (Builtin.SmallTypes.nextOf (.ref j)) Q E s:=by
 obtain⟨o1,e1,c1,d1⟩:=id g;obtain⟨o2,e2,_,n2,d2⟩:=t;unfold Builtin.SmallTypes.nextOf;refine ad (wpAny_callSpecial?_slot (name:=Str.ofString "__next__") g.typeIs F.slot_tuple_iterator_next (wpAny_call_entry F.slot_tuple_iterator_next g.typeIs F.entry_tuple_iterator_next ?_ (F.args_tuple_iterator_next_1 _)));show wpAny _ _ (field (.ref j) 0 >>= _) _ _ s;refine ad (ap e1 d1 (x:=.ref b) rfl ?_);show wpAny _ _ (if(Value.ref b ==Value.none)=true then _ else _) _ _ s;rw[if_neg (show ¬ ((Value.ref b ==Value.none)=true) from Bool.false_ne_true)];show wpAny _ _ (field (.ref j) 1 >>= _) _ _ s;refine ad (ap e1 d1 (x:=.int k 0) rfl ?_);show wpAny _ _ (seqItems? (.ref b) >>= _) _ _ s;refine ad (wpAny_seqItems e2 d2 ?_);simp only[re,hx];refine ad (wpAny_setField e1 d1 (by simp) (am ⟨x,rfl,am (q _ ?_ (Heap.SameBut.update ..))⟩));refine⟨_,Heap.get?_update_self _ e1 (Obj.isFreed_of_fields (Obj.data_mapFields d1 _)),(Obj.cls_mapFields ..).trans c1,?_⟩;rw[Obj.data_mapFields d1];simp[rawInt]
def xU {j b:Addr}{xs:Array Value}{Q:GC}(hh:A.handled=none)(g:s.heap.IsTupleIter j b k)(t:s.heap.IsTuple b xs)(hx:xs[k]? =none)
  (q:∀ h' e,Heap.ExtBut j s.heap h'->(∃ o,h'.get? e=some o/\o.cls=.type "StopIteration")->E (.ref e) { s with heap:=h' }):wpAny (model prog w) A (Builtin.SmallTypes.nextOf (.ref j)) Q E s:=by
 obtain⟨o1,e1,c1,d1⟩:=id g;obtain⟨o2,e2,_,n2,d2⟩:=t;unfold Builtin.SmallTypes.nextOf;refine ad (wpAny_callSpecial?_slot (name:=Str.ofString "__next__") g.typeIs F.slot_tuple_iterator_next (wpAny_call_entry F.slot_tuple_iterator_next g.typeIs F.entry_tuple_iterator_next ?_ (F.args_tuple_iterator_next_1 _)));show wpAny _ _ (field (.ref j) 0 >>= _) _ _ s;refine ad (ap e1 d1 (x:=.ref b) rfl ?_);show wpAny _ _ (if(Value.ref b ==Value.none)=true then _ else _) _ _ s;rw[if_neg (show ¬ ((Value.ref b ==Value.none)=true) from Bool.false_ne_true)];show wpAny _ _ (field (.ref j) 1 >>= _) _ _ s;refine ad (ap e1 d1 (x:=.int k 0) rfl ?_);show wpAny _ _ (seqItems? (.ref b) >>= _) _ _ s;refine ad (wpAny_seqItems e2 d2 ?_);simp only[re,hx];refine ad (wpAny_rule (ad (wpAny_setField e1 d1 (by simp) ?_)));show wpAny _ _ (newExc (.type "StopIteration") [] >>= _) _ _ _;refine ad ?_;simp only[newExc,newTuple];refine ad (wpAny_newObj_type ?_ (by size_fits));refine ad (m:=firstArgMember _ _) (wpAny_of_eq (a:=Value.none) (by first|rfl|(simp only[firstArgMember];rfl)) ?_);refine wpAny_newObj_type ?_ (by size_fits);simp only[raiseNew];refine ad (wpAny_handled ?_);first|rw[show A.in1.handled=none from hh]|rw[hh]
 refine ad (am (wpAny_throw ?_));exact q _ _ (((Heap.SameBut.update ..).extBut.push _).push _) ⟨_,ul _ rfl,rfl⟩
def dR {j b:Addr}{xs:Array Value}{x:Value}{Q:GC}(g:aK tp s.heap j b k)(t:a9 tp s.heap b xs)(hx:xs[k]? =some x)
  (q:∀ h',aK tp h' j b (k+1)->Heap.SameBut j s.heap h'->Q x { s with heap:=h' }):wpAny (model prog w) A (Builtin.SmallTypes.nextOf (.ref j)) Q E s:=by
 cases tp
 .exact wpAny_nextOf_list_item g t hx q
 .exact AR g t hx q
def kg {j b:Addr}{xs:Array Value}{Q:GC}(hh:A.handled=none)(g:aK tp s.heap j b k)(t:a9 tp s.heap b xs)(hx:xs[k]? =none)
  (q:∀ h' e,Heap.ExtBut j s.heap h'->(∃ o,h'.get? e=some o/\o.cls=.type "StopIteration")->E (.ref e) { s with heap:=h' }):wpAny (model prog w) A (Builtin.SmallTypes.nextOf (.ref j)) Q E s:=by
 cases tp
 .exact wpAny_nextOf_list_end hh g t hx q
 .exact xU hh g t hx q
@[reducible]def bh (h:Heap) (z TI TO:Addr) (f0 f1:Value):Prop:=h.get? z=some { cls:=.type "zip",dict:=none,data:=.fields #[f0,f1,.bool false,.ref TI,.ref TO],slots:=#[] }
variable {z TI TO i1 i2 l1 l2:Addr}{k1 k2:Nat}{tp1 tp2:Bool}{xs ys:Array Value}{x y a b f1:Value}
def qb (D:ZipApart z TI TO i1 i2 l1 l2)(hz:bh s.heap z TI TO .none f1)(hI:IsPair s.heap TI (.ref i1) (.ref i2))(hO:IsPair s.heap TO a b)
  (g1:aK tp1 s.heap i1 l1 k1) (g2:aK tp2 s.heap i2 l2 k2) (t1:a9 tp1 s.heap l1 xs) (t2:a9 tp2 s.heap l2 ys) (hx:xs[k1]? =some x) (hy:ys[k2]? =some y)
  (q:∀ h',bh h' z TI TO (rawInt s.heap.objs.size) (.bool false)->IsPair h' TO x y->aK tp1 h' i1 l1 (k1+1)->aK tp2 h' i2 l2 (k2+1)->IsPair h' s.heap.objs.size x y->h'.objs.size=s.heap.objs.size+1->
   (∀ c o,c≠z->c≠TO->c≠i1->c≠i2->s.heap.get? c=some o->h'.get? c=some o)->Q (some (.ref s.heap.objs.size)) { s with heap:=h' }):wpAny (model prog w) A (pyNext (.ref z)) Q E s:=by
 have hZ:s.TypeIs (.ref z) "zip":=⟨_,hz,rfl⟩;unfold pyNext;refine ad (wpAny_attempt (wpAny_callSpecial?_slot (name:=Str.ofString "__next__") hZ F.slot_zip_next (wpAny_call_entry F.slot_zip_next hZ F.entry_zip_next ?_ (F.args_zip_next_1 _))));show wpAny _ _ (field (.ref z) 2 >>= _) _ _ _;refine ad (ap (x:=.bool false) hz rfl rfl ?_);show wpAny _ _ (field (.ref z) 3 >>= _) _ _ _;refine ad (ap (x:=.ref TI) hz rfl rfl ?_);refine ad (wpAny_seqItems hI rfl ?_);show wpAny _ _ (Builtin.SmallTypes.ownedTupleIsFree (.ref z) >>= _) _ _ _;refine ad ?_;unfold Builtin.SmallTypes.ownedTupleIsFree;refine ad (ap (x:=.none) hz rfl rfl (am ?_));simp only[if_true];refine ad (wpAny_rule ?_);refine ad (ap (x:=.ref TO) hz rfl rfl ?_);refine ad (wpAny_setField_rec hz (by simp) λp1 z1 b1=>?_)
 replace z1:bh p1 z TI TO .ellipsis f1:=z1
 refine ad ?_;simp only[List.zipIdx_cons,List.zipIdx_nil,forIn_cons,forIn_nil];refine ad (ad (wpAny_onRaise ?_));show wpAny _ _ (Builtin.SmallTypes.nextOf (.ref i1) >>= _) _ _ _;refine ad (dR (g1.to λo e=>b1.extBut _ o D.i1z e) (t1.to λo e=>b1.extBut _ o D.l1z e) hx λp2 g1b b2=>am ?_);have hO2:IsPair p2 TO a b:=b2.extBut _ _ D.TOi1 (b1.extBut _ _ D.TOz hO);refine ad (wpAny_seqItems hO2 rfl ?_);refine ad (wpAny_updateSeq_pair hO2 λp3 hO3 b3=>?_)
 replace hO3:IsPair p3 TO x b:=hO3
 refine ad (wpAny_letGo (am ?_));refine ad (ad (wpAny_onRaise ?_));show wpAny _ _ (Builtin.SmallTypes.nextOf (.ref i2) >>= _) _ _ _;refine ad (dR (g2.to λo e=>b3.extBut _ o D.TOi2.symm (b2.extBut _ o D.i12.symm (b1.extBut _ o D.i2z e))) (t2.to λo e=>b3.extBut _ o D.l2TO (b2.extBut _ o D.l2i1 (b1.extBut _ o D.l2z e))) hy λp4 g2b b4=>am ?_);have hO4:IsPair p4 TO x b:=b4.extBut _ _ D.TOi2 hO3;refine ad (wpAny_seqItems hO4 rfl ?_);refine ad (wpAny_updateSeq_pair hO4 λp5 hO5 b5=>?_)
 replace hO5:IsPair p5 TO x y:=hO5
 refine ad (wpAny_letGo (am (am ?_)));refine ad (wpAny_seqItems hO5 rfl ?_);refine ad (wpAny_newTuple ?_);have hsz:p5.objs.size=s.heap.objs.size:=by rw[b5.1,b4.1,b3.1,b2.1,b1.1]
 have z5:bh p5 z TI TO .ellipsis f1:=b5.extBut _ _ D.TOz.symm (b4.extBut _ _ D.i2z.symm (b3.extBut _ _ D.TOz.symm (b2.extBut _ _ D.i1z.symm z1)));have k5:∀ c o,c≠z->c≠TO->c≠i1->c≠i2->s.heap.get? c=some o->p5.get? c=some o:=λc o n1 n2 n3 n4 e=>b5.extBut _ _ n2 (b4.extBut _ _ n4 (b3.extBut _ _ n2 (b2.extBut _ _ n3 (b1.extBut _ _ n1 e))))
 have g15:aK tp1 p5 i1 l1 (k1+1):=g1b.to λo e=>b5.extBut _ o D.TOi1.symm (b4.extBut _ o D.i12 (b3.extBut _ o D.TOi1.symm e))
 have g25:aK tp2 p5 i2 l2 (k2+1):=g2b.to λo e=>b5.extBut _ o D.TOi2.symm e
 have zlt:z<p5.objs.size:=tz z5;show wpAny _ _ (Builtin.SmallTypes.ownedTupleHandOut (.ref z) (.ref p5.objs.size) >>= _) _ _ _;refine ad ?_;unfold Builtin.SmallTypes.ownedTupleHandOut;have z6:bh (p5.push { cls:=.type "tuple",data:=.seq #[x,y] }) z TI TO .ellipsis f1:=sK _ z5;refine ad (wpAny_setField_rec z6 (by simp) λp7 z7 b7=>?_)
 replace z7:bh p7 z TI TO (rawInt p5.objs.size) f1:=z7
 refine wpAny_setField_rec z7 (by simp) λp8 z8 b8=>?_
 replace z8:bh p8 z TI TO (rawInt p5.objs.size) (.bool false):=z8
 have up:∀ c o,c≠z->p5.get? c=some o->p8.get? c=some o:=λc o n1 e=>b8.extBut _ _ n1 (b7.extBut _ _ n1 (sK _ e))
 have hT:IsPair p8 p5.objs.size x y:=b8.extBut _ _ (Nat.ne_of_gt zlt) (b7.extBut _ _ (Nat.ne_of_gt zlt) (ul _ rfl));have h8:p8.objs.size=p5.objs.size+1:=by rw[b8.1,b7.1,Heap.size_push]
 rw[hsz]at z8 hT h8;refine am ⟨_,rfl,?_⟩;rw[hsz];exact am (q p8 z8 (up _ _ D.TOz hO5) (g15.to λo e=>up _ o D.i1z e) (g25.to λo e=>up _ o D.i2z e) hT h8 λc o n1 n2 n3 n4 e=>up c o n1 (k5 c o n1 n2 n3 n4 e))
def Az {Q:Fin->Shared->Prop}(hh:A.handled=none)(D:ZipApart z TI TO i1 i2 l1 l2)(hz:bh s.heap z TI TO .none f1)(hI:IsPair s.heap TI (.ref i1) (.ref i2))(hO:IsPair s.heap TO a b)
  (g1:aK tp1 s.heap i1 l1 k1) (g2:aK tp2 s.heap i2 l2 k2) (t1:a9 tp1 s.heap l1 xs) (t2:a9 tp2 s.heap l2 ys) (hx:xs[k1]? =none\/ys[k2]? =none)
  (q:∀ h' e,(∀ c o,c≠z->c≠TO->c≠i1->c≠i2->s.heap.get? c=some o->h'.get? c=some o)->(∃ o,h'.get? e=some o/\o.cls=.type "StopIteration")->E (.ref e) { s with heap:=h' }):
  wpAny (model prog w) A (Builtin.«zip.__next__» ⟨[.ref z],[]⟩) Q E s:=by
 show wpAny _ _ (field (.ref z) 2 >>= _) _ _ _;refine ad (ap (x:=.bool false) hz rfl rfl ?_);show wpAny _ _ (field (.ref z) 3 >>= _) _ _ _;refine ad (ap (x:=.ref TI) hz rfl rfl ?_);refine ad (wpAny_seqItems hI rfl ?_);show wpAny _ _ (Builtin.SmallTypes.ownedTupleIsFree (.ref z) >>= _) _ _ _;refine ad ?_;unfold Builtin.SmallTypes.ownedTupleIsFree;refine ad (ap (x:=.none) hz rfl rfl (am ?_));simp only[if_true];refine ad (wpAny_rule ?_);refine ad (ap (x:=.ref TO) hz rfl rfl ?_);refine ad (wpAny_setField_rec hz (by simp) λp1 z1 b1=>?_)
 replace z1:bh p1 z TI TO .ellipsis f1:=z1
 refine ad ?_;simp only[List.zipIdx_cons,List.zipIdx_nil,forIn_cons,forIn_nil];refine ad (ad (wpAny_onRaise ?_));show wpAny _ _ (Builtin.SmallTypes.nextOf (.ref i1) >>= _) _ _ _;cases e1:xs[k1]? with
 |none=>
  refine ad (kg hh (g1.to λo e=>b1.extBut _ o D.i1z e) (t1.to λo e=>b1.extBut _ o D.l1z e) e1 λp2 e b2 he=>?_);obtain⟨oe,ho,hc⟩:=he;have z2:bh p2 z TI TO .ellipsis f1:=b2 _ _ D.i1z.symm z1;have ne:e≠z:=λn=>by subst n;rw[z2]at ho;cases ho;simp at hc
  exact wpAny_setField_rec z2 (by simp) λp3 _ b3=>q p3 e (λc o n1 _ n3 _ v=>b3.extBut _ _ n1 (b2 _ _ n3 (b1.extBut _ _ n1 v))) ⟨oe,b3.extBut _ _ ne ho,hc⟩
 |some x=>
  have e2:ys[k2]? =none:=by rcases hx with h|h;(rw[e1]at h;cases h);exact h
  refine ad (dR (g1.to λo e=>b1.extBut _ o D.i1z e) (t1.to λo e=>b1.extBut _ o D.l1z e) e1 λp2 g1b b2=>am ?_);have hO2:IsPair p2 TO a b:=b2.extBut _ _ D.TOi1 (b1.extBut _ _ D.TOz hO);refine ad (wpAny_seqItems hO2 rfl ?_);refine ad (wpAny_updateSeq_pair hO2 λp3 hO3 b3=>?_);refine ad (wpAny_letGo (am ?_));refine ad (ad (wpAny_onRaise ?_));show wpAny _ _ (Builtin.SmallTypes.nextOf (.ref i2) >>= _) _ _ _;refine ad (kg hh (g2.to λo e=>b3.extBut _ o D.TOi2.symm (b2.extBut _ o D.i12.symm (b1.extBut _ o D.i2z e))) (t2.to λo e=>b3.extBut _ o D.l2TO (b2.extBut _ o D.l2i1 (b1.extBut _ o D.l2z e))) e2 λp4 e b4 he=>?_);obtain⟨oe,ho,hc⟩:=he;have z4:bh p4 z TI TO .ellipsis f1:=b4 _ _ D.i2z.symm (b3.extBut _ _ D.TOz.symm (b2.extBut _ _ D.i1z.symm z1));have ne:e≠z:=λn=>by subst n;rw[z4]at ho;cases ho;simp at hc
  exact wpAny_setField_rec z4 (by simp) λp5 _ b5=>q p5 e (λc o n1 n2 n3 n4 v=>b5.extBut _ _ n1 (b4 _ _ n4 (b3.extBut _ _ n2 (b2.extBut _ _ n3 (b1.extBut _ _ n1 v))))) ⟨oe,b5.extBut _ _ ne ho,hc⟩
def my {Q:Option Obj->Shared->Prop}(h:Q (s.heap.get? c) s):wpAny (model prog w) A (loadIfAlive c) Q E s:=λ_ _ _=>h
variable {t:Tok}
def lB {Q:Bool->Shared->Prop}(hz:bh s.heap z TI TO (.int T t) (.bool fb))(hT:s.heap.get? T.toNat=some oT)(q:∀ h',bh h' z TI TO (.int T t) (.bool true)->Heap.SameBut z s.heap h'->Q false { s with heap:=h' }):
  wpAny (model prog w) A (Builtin.SmallTypes.ownedTupleIsFree (.ref z)) Q E s:=by
 unfold Builtin.SmallTypes.ownedTupleIsFree;refine ad (ap (x:=.int T t) hz rfl rfl ?_);refine ad (my ?_);rw[hT];refine ad (ap (x:=.bool fb) hz rfl rfl ?_);cases fb
 .refine ad (wpAny_setField_rec hz (by simp) λp1 z1 b1=>am ?_);exact q p1 z1 b1
 .exact ad (am (am (q s.heap hz (Heap.SameBut.refl ..))))
def yi (D:ZipApart z TI TO i1 i2 l1 l2)(hz:bh s.heap z TI TO (.int T t) (.bool fb))(hT:s.heap.get? T.toNat=some oT)(hI:IsPair s.heap TI (.ref i1) (.ref i2))
  (g1:aK tp1 s.heap i1 l1 k1) (g2:aK tp2 s.heap i2 l2 k2) (t1:a9 tp1 s.heap l1 xs) (t2:a9 tp2 s.heap l2 ys) (hx:xs[k1]? =some x) (hy:ys[k2]? =some y)
  (q:∀ h',bh h' z TI TO (.int T t) (.bool true)->aK tp1 h' i1 l1 (k1+1)->aK tp2 h' i2 l2 (k2+1)->IsPair h' s.heap.objs.size x y->h'.objs.size=s.heap.objs.size+1->
   (∀ c o,c≠z->c≠i1->c≠i2->s.heap.get? c=some o->h'.get? c=some o)->Q (some (.ref s.heap.objs.size)) { s with heap:=h' }):wpAny (model prog w) A (pyNext (.ref z)) Q E s:=by
 have hZ:s.TypeIs (.ref z) "zip":=⟨_,hz,rfl⟩;unfold pyNext;refine ad (wpAny_attempt (wpAny_callSpecial?_slot (name:=Str.ofString "__next__") hZ F.slot_zip_next (wpAny_call_entry F.slot_zip_next hZ F.entry_zip_next ?_ (F.args_zip_next_1 _))));show wpAny _ _ (field (.ref z) 2 >>= _) _ _ _;refine ad (ap (x:=.bool false) hz rfl rfl ?_);show wpAny _ _ (field (.ref z) 3 >>= _) _ _ _;refine ad (ap (x:=.ref TI) hz rfl rfl ?_);refine ad (wpAny_seqItems hI rfl ?_);show wpAny _ _ (Builtin.SmallTypes.ownedTupleIsFree (.ref z) >>= _) _ _ _;refine ad (lB hz hT λp1 z1 b1=>?_);simp only[Bool.false_eq_true,if_false];simp only[List.forIn_toArray,forIn_cons,forIn_nil];refine ad (ad (ad (bd ?_)));show wpAny _ _ (Builtin.SmallTypes.nextOf (.ref i1) >>= _) _ _ _;refine ad (dR (g1.to λo e=>b1.extBut _ o D.i1z e) (t1.to λo e=>b1.extBut _ o D.l1z e) hx λp2 g1b b2=>am (am ?_));dsimp only;refine ad (ad (bd ?_));show wpAny _ _ (Builtin.SmallTypes.nextOf (.ref i2) >>= _) _ _ _;refine ad (dR (g2.to λo e=>b2.extBut _ o D.i12.symm (b1.extBut _ o D.i2z e)) (t2.to λo e=>b2.extBut _ o D.l2i1 (b1.extBut _ o D.l2z e)) hy λp3 g2b b3=>am (am (am ?_)));dsimp only;refine ad (wpAny_newTuple ?_ (hsz:=fits (nw rfl)));have hsz:p3.objs.size=s.heap.objs.size:=by rw[b3.1,b2.1,b1.1]
 refine am ⟨_,rfl,?_⟩;have z3:bh p3 z TI TO (.int T t) (.bool true):=b3.extBut _ _ D.i2z.symm (b2.extBut _ _ D.i1z.symm z1);rw[hsz];refine am (q _ (sK _ z3) (g1b.to λo e=>sK _ (b3.extBut _ o D.i12 e)) (g2b.to λo e=>sK _ e) (by rw[<-hsz];exact ul _ rfl) (by rw[Heap.size_push,hsz]) λc o n1 n2 n3 e=>?_);exact sK _ (b3.extBut _ _ n3 (b2.extBut _ _ n2 (b1.extBut _ _ n1 e)))
def ur {Q:Fin->Shared->Prop}(hh:A.handled=none)(D:ZipApart z TI TO i1 i2 l1 l2)(hz:bh s.heap z TI TO (.int T t) (.bool fb))(hT:s.heap.get? T.toNat=some oT)(hI:IsPair s.heap TI (.ref i1) (.ref i2))
  (g1:aK tp1 s.heap i1 l1 k1) (g2:aK tp2 s.heap i2 l2 k2) (t1:a9 tp1 s.heap l1 xs) (t2:a9 tp2 s.heap l2 ys) (hx:xs[k1]? =none\/ys[k2]? =none)
  (q:∀ h' e,(∀ c o,c≠z->c≠i1->c≠i2->s.heap.get? c=some o->h'.get? c=some o)->(∃ o,h'.get? e=some o/\o.cls=.type "StopIteration")->E (.ref e) { s with heap:=h' }):
  wpAny (model prog w) A (Builtin.«zip.__next__» ⟨[.ref z],[]⟩) Q E s:=by
 show wpAny _ _ (field (.ref z) 2 >>= _) _ _ _;refine ad (ap (x:=.bool false) hz rfl rfl ?_);show wpAny _ _ (field (.ref z) 3 >>= _) _ _ _;refine ad (ap (x:=.ref TI) hz rfl rfl ?_);refine ad (wpAny_seqItems hI rfl ?_);show wpAny _ _ (Builtin.SmallTypes.ownedTupleIsFree (.ref z) >>= _) _ _ _;refine ad (lB hz hT λp1 z1 b1=>?_);simp only[Bool.false_eq_true,if_false];simp only[List.forIn_toArray,forIn_cons,forIn_nil];refine ad (ad (ad (bd ?_)));show wpAny _ _ (Builtin.SmallTypes.nextOf (.ref i1) >>= _) _ _ _;cases e1:xs[k1]? with
 |none=>exact ad (kg hh (g1.to λo e=>b1.extBut _ o D.i1z e) (t1.to λo e=>b1.extBut _ o D.l1z e) e1 λp2 e b2 he=>q p2 e (λc o n1 n2 n3 v=>b2 _ _ n2 (b1.extBut _ _ n1 v)) he)
 |some x=>
  have e2:ys[k2]? =none:=by rcases hx with h|h;(rw[e1]at h;cases h);exact h
  refine ad (dR (g1.to λo e=>b1.extBut _ o D.i1z e) (t1.to λo e=>b1.extBut _ o D.l1z e) e1 λp2 g1b b2=>am (am ?_));dsimp only;refine ad (ad (bd ?_));show wpAny _ _ (Builtin.SmallTypes.nextOf (.ref i2) >>= _) _ _ _;exact ad (kg hh (g2.to λo e=>b2.extBut _ o D.i12.symm (b1.extBut _ o D.i2z e)) (t2.to λo e=>b2.extBut _ o D.l2i1 (b1.extBut _ o D.l2z e)) e2 λp4 e b4 he=>q p4 e (λc o n1 n2 n3 v=>b4 _ _ n3 (b2.extBut _ _ n2 (b1.extBut _ _ n1 v))) he)
def uH (hh:A.handled=none)(D:ZipApart z TI TO i1 i2 l1 l2)(hz:bh s.heap z TI TO .none f1)(hI:IsPair s.heap TI (.ref i1) (.ref i2))(hO:IsPair s.heap TO a b)
  (g1:aK tp1 s.heap i1 l1 k1) (g2:aK tp2 s.heap i2 l2 k2) (t1:a9 tp1 s.heap l1 xs) (t2:a9 tp2 s.heap l2 ys) (hx:xs[k1]? =none\/ys[k2]? =none)
  (q:∀ h',(∀ c o,c≠z->c≠TO->c≠i1->c≠i2->s.heap.get? c=some o->h'.get? c=some o)->Q none { s with heap:=h' }):wpAny (model prog w) A (pyNext (.ref z)) Q E s:=by
 have hT:s.TypeIs (.ref z) "zip":=⟨_,hz,rfl⟩;unfold pyNext;refine ad (wpAny_attempt (wpAny_callSpecial?_slot (name:=Str.ofString "__next__") hT F.slot_zip_next (wpAny_call_entry F.slot_zip_next hT F.entry_zip_next (Az hh D hz hI hO g1 g2 t1 t2 hx λh' e k ⟨o,ho,hc⟩=>?_) (F.args_zip_next_1 _))));exact ad (wpAny_isInstance (T:="StopIteration") (b:=true) ⟨o,ho,hc⟩ isSubtype_stop (am (q _ k)))
def u0 (hh:A.handled=none)(D:ZipApart z TI TO i1 i2 l1 l2)(hz:bh s.heap z TI TO (.int T t) (.bool fb))(hT:s.heap.get? T.toNat=some oT)(hI:IsPair s.heap TI (.ref i1) (.ref i2))
  (g1:aK tp1 s.heap i1 l1 k1) (g2:aK tp2 s.heap i2 l2 k2) (t1:a9 tp1 s.heap l1 xs) (t2:a9 tp2 s.heap l2 ys) (hx:xs[k1]? =none\/ys[k2]? =none)
  (q:∀ h',(∀ c o,c≠z->c≠i1->c≠i2->s.heap.get? c=some o->h'.get? c=some o)->Q none { s with heap:=h' }):wpAny (model prog w) A (pyNext (.ref z)) Q E s:=by
 have hT':s.TypeIs (.ref z) "zip":=⟨_,hz,rfl⟩;unfold pyNext;refine ad (wpAny_attempt (wpAny_callSpecial?_slot (name:=Str.ofString "__next__") hT' F.slot_zip_next (wpAny_call_entry F.slot_zip_next hT' F.entry_zip_next (ur hh D hz hT hI g1 g2 t1 t2 hx λh' e k ⟨o,ho,hc⟩=>?_) (F.args_zip_next_1 _))));exact ad (wpAny_isInstance (T:="StopIteration") (b:=true) ⟨o,ho,hc⟩ isSubtype_stop (am (q _ k)))
abbrev uK (tp:Bool)(c:Addr):Obj:=match tp with
 |true=>{ cls:=.type "tuple_iterator",data:=.fields #[.ref c,.int 0 0] }
 |false=>{ cls:=.type "list_iterator",data:=.fields #[.ref c,.int 0 0] }
def lN {vs:Array Value}{Q:GC}(t:a9 tp s.heap c vs)(q:Q (.ref s.heap.objs.size) { s with heap:=s.heap.push (uK tp c) }):wpAny (model prog w) A (pyIter (.ref c)) Q E s:=by
 cases tp
 .exact wpAny_pyIter_list t q
 .exact wpAny_pyIter_tuple t q
@[reducible]def B6 (a:Array Value):Obj:={ cls:=.type "tuple",data:=.seq a }
@[reducible]def BZ (m n:Addr):Obj:={ cls:=.type "zip",data:=.fields #[.none,.bool false,.bool false,.ref m,.ref n] }
def Cm {l:Addr}:(uK tp l).isFreed=false:=by cases tp<;>rfl
def Dg {n:Nat}(o:Obj)(hn:h.objs.size=n)(ho:o.isFreed=false:=by first|rfl|exact Cm):∃ h',h.push o=h'/\h'.get? n=some o/\h'.objs.size=n+1/\∀ c o',h.get? c=some o'->h'.get? c=some o':=
 ⟨_,rfl,hn▸ul _ ho,by rw[Heap.size_push,hn],λ_ _ e=>sK _ e⟩
def FJ {i l:Addr}(e:h.get? i=some (uK tp l)):aK tp h i l 0:=by
 cases tp
 .exact⟨_,e,rfl,rfl⟩
 .exact⟨_,e,rfl,rfl⟩
noncomputable abbrev yU (h:Heap)(tp1 tp2:Bool)(l1 l2:Addr):Heap:=((((h.push (uK tp1 l1)).push (uK tp2 l2)).push (B6 #[.ref h.objs.size,.ref (h.objs.size+1)])).push (B6 #[.none,.none])).push (BZ (h.objs.size+2) (h.objs.size+3))
def wR (tp1 tp2:Bool)(l1 l2:Addr)(xs ys:Array Value):Meets (Builtin.«zip.__new__» ⟨[.type "zip",.ref l1,.ref l2],[]⟩)
  (λ_ R s=>a9 tp1 s.heap l1 xs/\a9 tp2 s.heap l2 ys/\R (.ok (.ret (.ref (s.heap.objs.size+4)))) { s with heap:=yU s.heap tp1 tp2 l1 l2 }):=.of_wp λprog w A R s h=>by
 obtain⟨hp,g,d,tk,os⟩:=s;obtain⟨t1,t2,q⟩:=h;have hsub:=sub_zip;have t2':a9 tp2 (hp.push (uK tp1 l1)) l2 ys:=t2.to λo e=>sK _ e
 wp_walk using lN (s:=⟨hp,g,d,tk,os⟩) t1,lN (s:=⟨hp.push (uK tp1 l1),g,d,tk,os⟩) t2'
 refine⟨_,rfl,?_⟩;simp only[Heap.size_push,Nat.add_assoc]at q⊢;exact q
def nc {Q:GC}(t1:a9 tp1 s.heap l1 xs)(t2:a9 tp2 s.heap l2 ys)
  (q:∀ h',bh h' (s.heap.objs.size+4) (s.heap.objs.size+2) (s.heap.objs.size+3) .none (.bool false)->IsPair h' (s.heap.objs.size+2) (.ref s.heap.objs.size) (.ref (s.heap.objs.size+1))->
   IsPair h' (s.heap.objs.size+3) .none .none->aK tp1 h' s.heap.objs.size l1 0->aK tp2 h' (s.heap.objs.size+1) l2 0->h'.objs.size=s.heap.objs.size+5->
   (∀ c o,s.heap.get? c=some o->h'.get? c=some o)->Q (.ref (s.heap.objs.size+4)) { s with heap:=h' }):
  wpAny (model prog w) A (call (.type "zip") [.ref l1,.ref l2]) Q E s:=by
 refine callType_new F.called_zip (by decide) (F.typeCall_zip_2 _ _) (F.newCall_zip_2 _ _) (λobj=>F.args_object_init_3 obj _ _) F.entry_zip_new (wR tp1 tp2 l1 l2 xs ys) ⟨t1,t2,?_⟩;generalize hn:s.heap.objs.size=n at q⊢;have hz:yU s.heap tp1 tp2 l1 l2=((((s.heap.push (uK tp1 l1)).push (uK tp2 l2)).push (B6 #[.ref n,.ref (n+1)])).push (B6 #[.none,.none])).push (BZ (n+2) (n+3)):=by rw[<-hn]
 obtain⟨_,a1,e0,z0,k0⟩:=Dg (uK tp1 l1) hn;obtain⟨_,a2,e1,z1,k1⟩:=Dg (uK tp2 l2) z0;obtain⟨_,a3,e2,z2,k2⟩:=Dg (B6 #[.ref n,.ref (n+1)]) z1;obtain⟨_,a4,e3,z3,k3⟩:=Dg (B6 #[.none,.none]) z2;obtain⟨_,a5,e4,z4,k4⟩:=Dg (BZ (n+2) (n+3)) z3;rw[hz,a1,a2,a3,a4,a5];exact⟨⟨_,e4,rfl⟩,q _ e4 (k4 _ _ (k3 _ _ e2)) (k4 _ _ e3) ((FJ e0).to λo e=>k4 _ _ (k3 _ _ (k2 _ _ (k1 _ _ e)))) ((FJ e1).to λo e=>k4 _ _ (k3 _ _ (k2 _ _ e))) z4 λc o e=>k4 _ _ (k3 _ _ (k2 _ _ (k1 _ _ (k0 _ _ e))))⟩
def t4 {n:Addr}(a1:l1<n)(a2:l2<n):ZipApart (n+4) (n+2) (n+3) n (n+1) l1 l2:=by
 constructor<;>(intro e;have e':=(show @Eq Nat _ _ from e);have b1:=(show @LT.lt Nat _ l1 n from a1);have b2:=(show @LT.lt Nat _ l2 n from a2);omega)
def rf {m:Nat}{T:Addr}{Q:GB}(hz:bh s.heap z TI TO (rawInt T) f1)(q:∀ h',bh h' z TI TO .none f1->Heap.SameBut z s.heap h'->Q () { s with heap:=h' }):
  wpAny (model prog w) A (letOwnedTupleGo (.Tuple elts m pos) (.ref z) (.ref T)) Q E s:=by
 unfold letOwnedTupleGo;refine ad (wpAny_load hz ?_);show wpAny _ _ (if(["enumerate","zip","dict_itemiterator","dict_reverseitemiterator","odict_iterator","itertools.zip_longest","itertools.pairwise"].contains "zip"&&(#[rawInt T,f1,.bool false,.ref TI,.ref TO]:Array Value)[0]? ==some (rawInt T))=true then _ else _) Q E s;rw[if_pos (by simp)];exact ad (wpAny_rule (wpAny_setField_rec hz (by simp) λh' z' b'=>q h' z' b'))
def gZ {f0:Value}{Q:GC}(hz:bh s.heap z TI TO f0 f1)(h:Q (.ref z) s):wpAny (model prog w) A (pyIter (.ref z)) Q E s:=by
 have hT:s.TypeIs (.ref z) "zip":=⟨_,hz,rfl⟩;refine wpAny_pyIter_slot hT F.slot_zip_iter (wpAny_call_entry F.slot_zip_iter hT F.entry_zip_iter ?_ (F.args_zip_iter_1 _));show wpAny _ _ (ret (.ref z)) _ _ s;exact am ⟨_,rfl,"zip",_,hT,F.slot_zip_next.lookup,h⟩
end
variable {X:Cx}{Y:GD}{U:St}{H:Hp}{s:Shared}
def Inv.xu {h':Heap}{t':Nat}{ch:List Addr}(I:Inv X Y U H s)(k:∀ b u,b ∉ ch->s.heap.get? b=some u->h'.get? b=some u) (hf:∀ b ∈ ch,fE X Y H b):Inv X Y U H { s with heap:=h',toks:=t' }:=by
 have nch:∀ b u,H b=some u->b ∉ ch:=λb u e z=>by rw[(hf b z).1]at e;cases e
 refine I.step (g':=s.gens) (d':=s.drawn) (ch:=ch) (λb hb=>?_) (λb o _ _ hc e _=>k b o hc e) (λb o _ _ hc e _=>⟨o.slots,k b o hc e⟩) (λ_ _ _ _ n=>n)
  (λb o hc e=>⟨o,k b o hc e⟩) (λ_ _ e=>e) (λ_ _ _ e=>e) (λb ps e=>⟨#[],by rw[e];simp⟩) (λm hm=>?_) (λb u e=>?_) I.bare
 .obtain⟨_,f1,_,f3,f4,f5⟩:=hf b hb;exact⟨f3,f1,f4,f5⟩
 .obtain⟨o,es,ep,ho,r⟩:=hm;exact⟨o,es,ep,k _ o (λz=>(hf _ z).2.1 rfl) ho,r⟩
 .refine(I.hok b u e).c9 (λc v hc q=>k c v ?_ q) (λ_ q=>q) λ_ _ q=>q
  rcases hc with rfl|hc
  .exact nch _ _ e
  .exact nch _ _ hc
abbrev Sq (K:W.Frag)(tp:Bool)(H:Hp)(c:Addr)(xs:List V):Prop:=match tp with
 |true=>ba K H c xs
 |false=>aN K H c xs
def Inv.sq {xs:List V}(I:Inv X Y U H s)(h:Sq X.K tp H c xs):∃ its:List Value,Vals xs its/\a9 tp s.heap c its.toArray:=by
 cases tp
 .obtain⟨its,r,p,_⟩:=I.list h;exact⟨its,r,p.isList⟩
 .obtain⟨its,r,p,_⟩:=I.tuple h;exact⟨its,r,p⟩
def Inv.vA {xs ys:List V}(I:Inv X Y U H s)(h:Sq X.K tp H c xs)(h':Sq X.K tp H c ys):xs=ys:=by
 cases tp
 .exact I.ip h h'
 .exact I.dQ h h'
abbrev Eg (K:W.Frag)(tp1:Bool)(l1:Addr)(tp2:Bool)(l2:Addr):It:=
 ⟨λi H=>∃ xs ys x y,Sq K tp1 H l1 xs/\Sq K tp2 H l2 ys/\xs[i]? =some x/\ys[i]? =some y,
  λi H v H'=>∃ T x y,H T=none/\v=.ref T/\H'=upd H T (.tup [x,y])/\(∀ xs,Sq K tp1 H l1 xs->xs[i]? =some x)/\∀ ys,Sq K tp2 H l2 ys->ys[i]? =some y,
  λi H=>∃ xs ys,Sq K tp1 H l1 xs/\Sq K tp2 H l2 ys/\(xs.length<=i\/ys.length<=i)⟩
def tY {P:Program}{w:World}{K:W.Frag}{tp1 tp2:Bool}{z TI TO i1 i2 l1 l2:Addr}(D:ZipApart z TI TO i1 i2 l1 l2):
  Turn P w K Calm (.Tuple elts k pos) (Eg K tp1 l1 tp2 l2) [z,TI,TO,i1,i2] z (λi h=>(∃ f1,bh h z TI TO .none f1)/\IsPair h TI (.ref i1) (.ref i2)/\(∃ a b,IsPair h TO a b)/\aK tp1 h i1 l1 i/\aK tp2 h i2 l2 i) where
 mem:=by simp
 obj:=λi h st b hb=>by
  obtain⟨⟨f1,hz⟩,hI,⟨a,b',hO⟩,g1,g2⟩:=st;have it:∀ {tp:Bool}{j c:Addr}{k:Nat},aK tp h j c k->∃ o,h.get? j=some o/\∀ v,o.data≠.cell v:=λ{tp j c k} g=>by
   cases tp
   .obtain⟨o,e,_,d⟩:=(show h.IsListIter j c k from g);exact⟨o,e,λv z=>by rw[d]at z;cases z⟩
   .obtain⟨o,e,_,d⟩:=(show h.IsTupleIter j c k from g);exact⟨o,e,λv z=>by rw[d]at z;cases z⟩
  simp only[lv,not_mem_nil,or_false]at hb;rcases hb with rfl|rfl|rfl|rfl|rfl
  .exact⟨_,hz,λv e=>by cases(show Data.fields _=Data.cell v from e)⟩
  .exact⟨_,hI,λv e=>by cases(show Data.seq _ _=Data.cell v from e)⟩
  .exact⟨_,hO,λv e=>by cases(show Data.seq _ _=Data.cell v from e)⟩
  .exact it g1
  .exact it g2
 keep:=λi h h' st k=>by
  obtain⟨⟨f1,hz⟩,hI,⟨a,b',hO⟩,g1,g2⟩:=st;exact⟨⟨f1,k z (by simp) _ hz⟩,k TI (by simp) _ hI,⟨a,b',k TO (by simp) _ hO⟩,g1.to λo e=>k i1 (by simp) o e,g2.to λo e=>k i2 (by simp) o e⟩
 item:=by
  intro X hP hw hK hc i Y s U H E I hf st hg;subst hP hw hK;obtain⟨xs,ys,x,y,hq1,hq2,hx,hy⟩:=hg;obtain⟨⟨f1,hz⟩,hI,⟨a,b,hO⟩,g1,g2⟩:=st;obtain⟨is1,r1,t1⟩:=I.sq hq1;obtain⟨is2,r2,t2⟩:=I.sq hq2;obtain⟨u,hu,ru⟩:=r1.get hx;obtain⟨v,hv,rv⟩:=r2.get hy;have n0:∀ {c o},s.heap.get? c=some o->c≠s.heap.objs.size:=λe=>pc (tz e)
  refine qb D hz hI hO g1 g2 t1 t2 (x:=u) (y:=v) (by simpa using hu) (by simpa using hv) λh1 z1 o1 j1 j2 hT hs1 k1=>?_
  have I1:Inv X Y U (upd H s.heap.objs.size (.tup [x,y])) { s with heap:=h1,toks:=s.toks }:=
   I.mK (ch:=[z,TI,TO,i1,i2]) (λb o hb q=>k1 b o (λe=>hb (by simp[e])) (λe=>hb (by simp[e])) (λe=>hb (by simp[e])) (λe=>hb (by simp[e])) q) hf (pi _)
    ⟨fits (nw rfl),[u,v],.cons ru (.cons rv .nil),⟨_,hT,rfl,_,rfl⟩⟩
  refine⟨_,rfl,rf z1 λh2 z2 b2=>?_⟩;obtain⟨f0,f1',f2,f3,f4,f5⟩:=hf z (by simp);have I2:=I1.turned (h':=h2) (t':=s.toks) (it:=z) (λb o hb q=>(b2.2 b hb).trans q) (by rw[af (n0 hz)];exact f0) f1' f3 f4 f5;refine⟨.ref s.heap.objs.size,_,I2,rfl,⟨_,x,y,I.hok.fresh (pi _),rfl,rfl,λzs hz'=>?_,λzs hz'=>?_⟩,⟨⟨_,z2⟩,?_,⟨_,_,b2.extBut _ _ D.TOz o1⟩,j1.to λo e=>b2.extBut _ o D.i1z e,j2.to λo e=>b2.extBut _ o D.i2z e⟩,λb hb=>?_⟩
  .rw[I.vA hz' hq1];exact hx
  .rw[I.vA hz' hq2];exact hy
  .exact b2.extBut _ _ D.TIz (k1 _ _ D.TIz D.TITO D.TIi1 D.TIi2 hI)
  .have hb':b≠s.heap.objs.size:=by
    simp only[lv,not_mem_nil,or_false]at hb;rcases hb with rfl|rfl|rfl|rfl|rfl
    .exact n0 hz
    .exact n0 hI
    .exact n0 hO
    .exact pc g1.lt
    .exact pc g2.lt
   rw[af hb'];exact(hf b hb).1
 done:=by
  intro X hP hw hK hc i Y s U H E I hf st hg;subst hP hw hK;obtain⟨xs,ys,hq1,hq2,hx⟩:=hg;obtain⟨⟨f1,hz⟩,hI,⟨a,b,hO⟩,g1,g2⟩:=st;obtain⟨is1,r1,t1⟩:=I.sq hq1;obtain⟨is2,r2,t2⟩:=I.sq hq2;have e1:=r1.length;have e2:=r2.length;refine uH (I.ok.hd hc) D hz hI hO g1 g2 t1 t2 (by simp;omega) λh' k'=>⟨rfl,?_⟩
  exact I.xu (t':=s.toks) (ch:=[z,TI,TO,i1,i2]) (λb o hb q=>k' b o (λe=>hb (by simp[e])) (λe=>hb (by simp[e])) (λe=>hb (by simp[e])) (λe=>hb (by simp[e])) q) hf
 self:=λ_ _ _ _ _ st h=>by
  obtain⟨⟨f1,hz⟩,_⟩:=st;exact gZ hz h
def uR:bootBuiltins "zip"=some (.type "zip"):=by decide+kernel
abbrev Dx (K:W.Frag)(v u:V)(H:Hp)(R:It->Hp->Prop):Prop:=∃ tp1 l1 tp2 l2,v=.ref l1/\u=.ref l2/\(∃ xs,Sq K tp1 H l1 xs)/\(∃ ys,Sq K tp2 H l2 ys)/\R (Eg K tp1 l1 tp2 l2) H
abbrev EM (K:W.Frag)(ta:TA):TI:=λU H R=>ta U H λvs H1=>∃ v u,vs=[v,u]/\Dx K v u H1 R
def AD {a b:Expr}{ta:TA}{p pos':Pos}(hg:Gl X "zip") (hm:X.mg "zip"=none) (ha:PA X [a,b] ta) (hs:bm [a,b] X.env=(false,eval a X.env)::bm [b] X.env:=by rfl) (hpl:(backTo pos (bm [b] X.env)).any (·.1)=false:=by rfl):
  PI X (.Tuple elts k pos') (.Call (.Name "zip" p) [a,b] [] pos) (EM X.K ta):=by
 intro Y s U H R I h;refine Call_ (cO I hg hm uR (PyProof.Rows.callWith_type1 (ar (ha pos Y s U H _ I h) λus s1 ⟨vs,H1,I1,r1,q1⟩=>?_) hs hpl));obtain⟨v,u,e,tp1,l1,tp2,l2,e1,e2,⟨xs,q1⟩,⟨ys,q2⟩,q⟩:=q1;subst e e1 e2;cases r1 with
 |cons r rr=>
  cases rr with
  |cons r' rr'=>
   cases rr';cases r;cases r';obtain⟨is1,s1',t1⟩:=I1.sq q1;obtain⟨is2,s2',t2⟩:=I1.sq q2;refine nc t1 t2 λh' hz hI hO g1 g2 hsz hk=>?_
   refine gZ hz ?_;refine⟨s1.heap.objs.size+4,[s1.heap.objs.size+4,s1.heap.objs.size+2,s1.heap.objs.size+3,s1.heap.objs.size,s1.heap.objs.size+1],_,_,H1,rfl,I1.kept (t':=s1.toks) hk,tY (t4 t1.lt t2.lt),⟨⟨_,hz⟩,hI,⟨_,_,hO⟩,g1,g2⟩,λb hb=>?_,q⟩;have hb':s1.heap.objs.size<=b:=by
    simp only[lv,not_mem_nil,or_false]at hb;rcases hb with rfl|rfl|rfl|rfl|rfl<;>first|exact pi _|exact Nat.le_add_right _ _
   exact I1.nQ hb' (I1.hok.fresh hb')
def kR:entryFor table "zip.__getattribute__"=some Builtin.«object.__getattribute__»:=entryFor_alias (id':="object.__getattribute__") (by kernel_rfl) (by first|rfl|decide+kernel) (by decide+kernel) (by kernel_rfl)
def lK:typeLookup (.type "zip") "keys"=pure none:=by rw[typeLookup_type,builtinLookup_eq_fast];kernel_rfl
def qT:typeLookup (.type "zip") "__getattr__"=pure none:=by rw[typeLookup_type,builtinLookup_eq_fast];kernel_rfl
def rh (a:Addr)(vs:Array Value)(u:Tok):Meets (Builtin.«object.__getattribute__» ⟨[.ref a,.str "keys" u],[]⟩) (λA R s=>s.heap.get? a=some { cls:=.type "zip",dict:=none,data:=.fields vs,slots:=#[] }/\raisesAttr (.ref a) "keys" A R s):=
 Meets.of_wp λprog w A R s ⟨hx,hs⟩=>by
  obtain⟨hp,g,d,tk,os⟩:=s;have hT:(⟨hp,g,d,tk,os⟩:Shared).TypeIs (.ref a) "zip":=⟨_,hx,rfl⟩;have f4:=lK;unfold Builtin.«object.__getattribute__»
  repeat(any_goals first|assumption|wp_step)
  exact wpAny_raiseAttrError hs.1 hs.2 (attrMsg_fits (by decide+kernel) (by rw[sizeLine_eq];decide+kernel))
section
variable {prog:Program}{w:World}{A:Around}{E:GC}{s:Shared}{a:Addr}{vs:Array Value}
def uS (hA:A.handled=none)(hx:s.heap.get? a=some { cls:=.type "zip",dict:=none,data:=.fields vs,slots:=#[] })
  (q:∀ h' t',(∀ c u,s.heap.get? c=some u->h'.get? c=some u)->Q none { s with heap:=h',toks:=t' }):wpAny (model prog w) A (getAttr? (.ref a) "keys") Q E s:=by
 obtain⟨hp,g,d,tk,os⟩:=s;have hT:∀ t',(⟨hp,g,d,t',os⟩:Shared).TypeIs (.ref a) "zip":=λ_=>⟨_,hx,rfl⟩
 have f1:=sub_AttributeError;have f3:=PySem.F.slot_zip_getattribute.lookup;have f4:=PySem.F.slot_zip_getattribute.bind (.ref a);have f5:=qT;unfold getAttr? getAttrBy? getAttrBy
 repeat(any_goals first|assumption|((with_reducible show wpAny _ _ (call (Value.builtin "zip.__getattribute__") _ _) _ _ _);refine call_meets PySem.F.slot_zip_getattribute (hT _) kR (PySem.F.args_zip_getattribute_2 _ _) (rh a vs _) ⟨hx,hA,λh' tk' e he=>?_⟩)|wp_step)
 obtain⟨t1,u1,e1⟩:=he.there;show wpAny _ _ (getattributeRaised _ _ _ _ _ _ _) _ _ _;unfold getattributeRaised
 repeat(any_goals first|assumption|wp_step)
 exact q _ _ he.keeps
end
structure Zs (h:Heap) (tp1 tp2:Bool) (z TI TO i1 i2 l1 l2:Addr) (i:Nat) (xs ys:Array Value):Prop where
 zo:(∃ f1,bh h z TI TO .none f1)\/∃ (T:Int) (fb:Bool) (o:Obj),bh h z TI TO (rawInt T) (.bool fb)/\h.get? T.toNat=some o/\T.toNat≠z/\T.toNat≠TO/\T.toNat≠i1/\T.toNat≠i2
 hI:IsPair h TI (.ref i1) (.ref i2)
 hO:∃ a b,IsPair h TO a b
 g1:aK tp1 h i1 l1 i
 g2:aK tp2 h i2 l2 i
 t1:a9 tp1 h l1 xs
 t2:a9 tp2 h l2 ys
variable {d:Addr}
section
variable {prog:Program}{w:World}{A:Around}{E:GC}{s:Shared}{tp1 tp2:Bool}{z TI TO i1 i2 l1 l2:Addr}{i:Nat}{xs ys:Array Value}{x y:Value}
def Zs.next (D:ZipApart z TI TO i1 i2 l1 l2)(Z:Zs s.heap tp1 tp2 z TI TO i1 i2 l1 l2 i xs ys)(hx:xs[i]? =some x)(hy:ys[i]? =some y)
  (q:∀ h',Zs h' tp1 tp2 z TI TO i1 i2 l1 l2 (i+1) xs ys->IsPair h' s.heap.objs.size x y->h'.objs.size=s.heap.objs.size+1->(∀ c o,c≠z->c≠TO->c≠i1->c≠i2->s.heap.get? c=some o->h'.get? c=some o)->Q (some (.ref s.heap.objs.size)) { s with heap:=h' }):
  wpAny (model prog w) A (pyNext (.ref z)) Q E s:=by
 obtain⟨zo,hI,⟨a,b,hO⟩,g1,g2,t1,t2⟩:=Z;have n0:∀ {c o},s.heap.get? c=some o->s.heap.objs.size≠c:=λe=>Nat.ne_of_gt (tz e)
 rcases zo with⟨f1,hz⟩|⟨T,fb,o,hz,hT,n1,n2,n3,n4⟩
 .refine qb D hz hI hO g1 g2 t1 t2 hx hy λh' z1 o1 j1 j2 p1 sz k=>?_
  refine q h' ⟨.inr ⟨s.heap.objs.size,false,_,z1,p1,n0 hz,n0 hO,Nat.ne_of_gt g1.lt,Nat.ne_of_gt g2.lt⟩,k _ _ D.TIz D.TITO D.TIi1 D.TIi2 hI,⟨_,_,o1⟩,j1,j2,t1.to λo e=>k _ o D.l1z D.l1TO D.l1i1 D.l1i2 e,t2.to λo e=>k _ o D.l2z D.l2TO D.l2i1 D.l2i2 e⟩ p1 sz k
 .refine yi D hz hT hI g1 g2 t1 t2 hx hy λh' z1 j1 j2 p1 sz k=>?_
  exact q h' ⟨.inr ⟨T,true,o,z1,k _ _ n1 n3 n4 hT,n1,n2,n3,n4⟩,k _ _ D.TIz D.TIi1 D.TIi2 hI,⟨a,b,k _ _ D.TOz D.TOi1 D.TOi2 hO⟩,j1,j2,t1.to λo e=>k _ o D.l1z D.l1i1 D.l1i2 e,t2.to λo e=>k _ o D.l2z D.l2i1 D.l2i2 e⟩ p1 sz λc o m1 _ m3 m4 e=>k c o m1 m3 m4 e
def Zs.stop (hh:A.handled=none)(D:ZipApart z TI TO i1 i2 l1 l2)(Z:Zs s.heap tp1 tp2 z TI TO i1 i2 l1 l2 i xs ys)(hx:xs[i]? =none\/ys[i]? =none)
  (q:∀ h',(∀ c o,c≠z->c≠TO->c≠i1->c≠i2->s.heap.get? c=some o->h'.get? c=some o)->Q none { s with heap:=h' }):wpAny (model prog w) A (pyNext (.ref z)) Q E s:=by
 obtain⟨zo,hI,⟨a,b,hO⟩,g1,g2,t1,t2⟩:=Z;rcases zo with⟨f1,hz⟩|⟨T,fb,o,hz,hT,_⟩
 .exact uH hh D hz hI hO g1 g2 t1 t2 hx q
 .exact u0 hh D hz hT hI g1 g2 t1 t2 hx λh' k=>q h' λc o m1 _ m3 m4 e=>k c o m1 m3 m4 e
def Zs.keep {h':Heap}(Z:Zs h tp1 tp2 z TI TO i1 i2 l1 l2 i xs ys)(k:∀ c o,h.get? c=some o->c≠d->h'.get? c=some o) (n:d≠z/\d≠TI/\d≠TO/\d≠i1/\d≠i2/\d≠l1/\d≠l2) (hd:∃ o,h'.get? d=some o):Zs h' tp1 tp2 z TI TO i1 i2 l1 l2 i xs ys:=by
 obtain⟨zo,hI,⟨a,b,hO⟩,g1,g2,t1,t2⟩:=Z;obtain⟨m1,m2,m3,m4,m5,m6,m7⟩:=n;refine⟨?_,k _ _ hI m2.symm,⟨a,b,k _ _ hO m3.symm⟩,g1.to λo e=>k _ o e m4.symm,g2.to λo e=>k _ o e m5.symm,t1.to λo e=>k _ o e m6.symm,t2.to λo e=>k _ o e m7.symm⟩;rcases zo with⟨f1,hz⟩|⟨T,fb,o,hz,hT,r⟩
 .exact .inl ⟨f1,k _ _ hz m1.symm⟩
 .by_cases e:T.toNat=d
  .obtain⟨o',ho⟩:=hd;exact .inr ⟨T,fb,o',k _ _ hz m1.symm,by rw[e];exact ho,r⟩
  .exact .inr ⟨T,fb,o,k _ _ hz m1.symm,k _ _ hT e,r⟩
end
def dM:plainId "dict.update.loop"=true:=by decide+kernel
def jH:entryFor table "dict.update.loop"=some Builtin.«dict.update.loop»:=entryFor_of_tree (by kernel_rfl)
variable {E:GC}
section
variable {prog:Program}{w:World}{A:Around}{tp1 tp2:Bool}{z TI TO i1 i2 l1 l2 d:Addr}{xs ys:Array Value}{Ky:Type} [DecidableEq Ky] {knd:KeyKind prog w Ky}
def vp (hh:A.handled=none)(D:ZipApart z TI TO i1 i2 l1 l2)(nd:d≠z/\d≠TI/\d≠TO/\d≠i1/\d≠i2/\d≠l1/\d≠l2)(ks:List Ky)(hk:∀ (j:Nat) x,xs[j]? =some x->∃ k,ks[j]? =some k/\knd.is k x=true) (hz:xs.size=ys.size):
  ∀ (m i:Nat),xs.size-i=m->i<=xs.size->∀ (s:Shared) (kvs:List (Ky×Value)) (R:Result->Shared->Prop),Zs s.heap tp1 tp2 z TI TO i1 i2 l1 l2 i xs ys->s.heap.DictOf knd d kvs->kvs.length+m<=bn->
  (∀ h' t',h'.DictOf knd d (merged kvs ((ks.zip ys.toList).drop i))->(∀ c o,c≠z->c≠TO->c≠i1->c≠i2->c≠d->s.heap.get? c=some o->h'.get? c=some o)->R (.ok (.ret .none)) { s with heap:=h',toks:=t' })->
  wpAny (model prog w) A.in1 (Builtin.«dict.update.loop» ⟨[.ref d,.ref z,rawInt i,.none],[]⟩) (λfin s'=>match fin with| .done f=>R (.ok f) s'| .again c'=>c'.quiet=true/\codeAny (model prog w) A c' R s') (λe s'=>R (.error e) s') s:=by
 intro m
 induction m with
 |zero=>
  intro i hm hi s kvs R Z dd hl q;show wpAny _ _ (pyNext (.ref z) >>= _) _ _ _;refine ad (Z.stop (show A.in1.handled=none from hh) D (.inl (by simp;omega)) λh' k=>?_);show wpAny _ _ (Builtin.Dict.addKeywords d [] >>= _) _ _ _;refine ad (am (am ?_));have e:(ks.zip ys.toList).drop i=[]:=by
   rw[List.drop_eq_nil_iff,List.length_zip];simp
   omega
  rw[e]at q;refine q h' s.toks ?_ λc o n1 n2 n3 n4 _ e=>k c o n1 n2 n3 n4 e
  obtain⟨o,es,ep,ho,r⟩:=dd;exact⟨o,es,ep,k _ _ nd.1 nd.2.2.1 nd.2.2.2.1 nd.2.2.2.2.1 ho,r⟩
 |succ m ih=>
  intro i hm hi s kvs R Z dd hl q;have h1:i<xs.size:=by omega
  have h2:i<ys.size:=by omega
  have e1:xs[i]? =some xs[i]:=Array.getElem?_eq_getElem h1;have e2:ys[i]? =some ys[i]:=Array.getElem?_eq_getElem h2;obtain⟨k,hk1,hk2⟩:=hk i _ e1;show wpAny _ _ (pyNext (.ref z) >>= _) _ _ _;refine ad (Z.next D e1 e2 λh' Z' p sz fr=>?_);show wpAny _ _ (holding [_] _ >>= _) _ _ _;refine ad (bd ?_);refine ad ?_;have hT:({ s with heap:=h' }:Shared).TypeIs (.ref s.heap.objs.size) "tuple":=⟨_,p,rfl⟩;refine wpAny_tryCatch ?_;unfold Builtin.Dict.pairItems;refine ad (wpAny_typeOf hT ?_);rw[if_pos (by decide)];refine ad (wpAny_seqItems p rfl (am ?_));show wpAny _ _ (holding [_,_] (dictSet d xs[i] ys[i])) _ _ _;refine bd ?_;have dd':h'.DictOf knd d kvs:=by
   obtain⟨o,es,ep,ho,r⟩:=dd;exact⟨o,es,ep,fr _ _ nd.1 nd.2.2.1 nd.2.2.2.1 nd.2.2.2.2.1 ho,r⟩
  refine wpAny_dictSet_pairs (s:={ s with heap:=h' }) (hsz:=by omega) hk2 dd' λh2' d2 b2=>?_
  show wpAny _ _ (pure (Fin.again (.builtin "dict.update.loop" ⟨[.ref d,.ref z,rawInt ((i:Int)+1),.none],[]⟩))) _ _ _;refine am ⟨plainId_quiet dM _,codeAny_builtin jH ?_⟩;rw[Around.under_plainId dM _,show((i:Int)+1)=((i+1:Nat):Int) by push_cast;rfl];have hd:∃ o,h2'.get? d=some o:=let⟨o,_,_,ho,_⟩:=d2;⟨o,ho⟩;refine ih (i+1) nofun nofun { s with heap:=h2',toks:=s.toks+1 } (stored kvs k ys[i]) R (Z'.keep (λc o e n=>b2.extBut _ _ n e) nd hd) d2 ?_ λh3 t3 d3 f3=>?_
  .have:(stored kvs k ys[i]).length<=kvs.length+1:=by
    unfold stored
    split
    .rw[ce];omega
    .rw[ci];simp
   omega
  .have ed:(ks.zip ys.toList).drop i=(k,ys[i])::(ks.zip ys.toList).drop (i+1):=by
    have:(ks.zip ys.toList)[i]? =some (k,ys[i]):=by
     rw[List.getElem?_zip_eq_some];exact⟨hk1,by simpa using h2⟩
    obtain⟨hlt,he⟩:=sw.mp this;rw[List.drop_eq_getElem_cons hlt,he]
   refine q h3 t3 ?_ λc o n1 n2 n3 n4 n5 e=>f3 c o n1 n2 n3 n4 n5 (b2.extBut _ _ n5 (fr c o n1 n2 n3 n4 e))
   rw[ed];exact d3
def jU {Q:GC}(hh:A.handled=none)(D:ZipApart z TI TO i1 i2 l1 l2)(ks:List Ky)(hk:∀ (j:Nat) x,xs[j]? =some x->∃ k,ks[j]? =some k/\knd.is k x=true) (hz:xs.size=ys.size) (hn:ks.Nodup) (hkl:ks.length=xs.size) (hsz:xs.size<=bn)
  (Z:Zs s.heap tp1 tp2 z TI TO i1 i2 l1 l2 0 xs ys) (hzo:∃ f1,bh s.heap z TI TO .none f1)
  (q:∀ h' t',h'.DictOf knd s.heap.objs.size (ks.zip ys.toList)->(∀ c o,c≠z->c≠TO->c≠i1->c≠i2->s.heap.get? c=some o->h'.get? c=some o)->Q (.ref s.heap.objs.size) { s with heap:=h',toks:=t' }):
  wpAny (model prog w) A (call (.type "dict") [.ref z]) Q E s:=by
 refine callType_codes (Q₁:=λobj s1=>obj=.ref s.heap.objs.size/\s1={ s with heap:=s.heap.push { cls:=.type "dict",data:=.dict #[] } }) PySem.F.kt_called_dict (PySem.F.kt_typeCall_dict_1 _) PySem.F.entry_dict_init (kt_code_dict_new _ ⟨rfl,rfl⟩) ?_;rintro obj s1 ⟨rfl,rfl⟩;have dn:(s.heap.push { cls:=.type "dict",data:=.dict #[] }).DictOf knd s.heap.objs.size []:=Heap.DictOf.new s.heap;refine⟨dn.typeIs,PySem.F.args_dict_init_2 _ _,?_⟩;unfold Builtin.«dict.__init__»;refine ad ?_;unfold Builtin.Dict.selfAndRest;refine ad (wpAny_notOrdered_dict dn.typeIs ?_);show wpAny _ _ (pure (s.heap.objs.size,[Value.ref z])) _ _ _;refine am ?_;show wpAny _ _ (Builtin.Dict.updateFrom "dict.__init__" s.heap.objs.size (.ref z) [] .none) _ _ _;unfold Builtin.Dict.updateFrom;obtain⟨f1,hz0⟩:=hzo;have hz1:(s.heap.push { cls:=.type "dict",data:=.dict #[] }).get? z=some _:=sK _ hz0;have hT:({ s with heap:=s.heap.push { cls:=.type "dict",data:=.dict #[] } }:Shared).TypeIs (.ref z) "zip":=⟨_,hz1,rfl⟩;refine ad (wpAny_typeOf hT ?_);rw[if_pos (by decide)];refine ad (uS hh hz1 λh1 t1 k1=>?_);rw[if_pos (show(none:Option Value).isNone=true from rfl)];refine ad (wpAny_rule ?_);refine ad (gZ (s:={ s with heap:=h1,toks:=t1 }) (k1 _ _ hz1) ?_);have n0:∀ {c o},s.heap.get? c=some o->s.heap.objs.size≠c:=λe=>Nat.ne_of_gt (tz e)
 have nd:s.heap.objs.size≠z/\s.heap.objs.size≠TI/\s.heap.objs.size≠TO/\s.heap.objs.size≠i1/\s.heap.objs.size≠i2/\s.heap.objs.size≠l1/\s.heap.objs.size≠l2:=by
  obtain⟨a,b,hO⟩:=Z.hO;exact⟨n0 hz0,n0 Z.hI,n0 hO,Nat.ne_of_gt Z.g1.lt,Nat.ne_of_gt Z.g2.lt,Nat.ne_of_gt Z.t1.lt,Nat.ne_of_gt Z.t2.lt⟩
 have kk:∀ c o,s.heap.get? c=some o->h1.get? c=some o:=λc o e=>k1 _ _ (sK _ e)
 have d1:h1.DictOf knd s.heap.objs.size []:=by
  obtain⟨o,es,ep,ho,r⟩:=dn;exact⟨o,es,ep,k1 _ _ ho,r⟩
 refine am ⟨plainId_quiet dM _,codeAny_builtin jH ?_⟩;rw[Around.under_plainId dM _];refine vp (A:=A.in1) (d:=s.heap.objs.size) hh D nd ks hk hz _ 0 rfl (Nat.zero_le _) { s with heap:=h1,toks:=t1 } [] _ (Z.keep (λc o e _=>kk c o e) nd (let⟨o,_,_,ho,_⟩:=d1;⟨o,ho⟩)) d1 (by simpa using hsz) λh' t' d' f'=>?_
 rw[drop_zero,merged_nil_of_nodup _ (by rw[List.map_fst_zip (by simp;omega)];exact hn)]at d';exact⟨rfl,q h' t' d' λc o n1 n2 n3 n4 e=>f' c o n1 n2 n3 n4 (n0 e).symm (kk c o e)⟩
end
def tV:bootBuiltins "dict"=some (.type "dict"):=by decide+kernel
def zJ {P:Program}{w:World}:∀ {ks:List Key}{us:List Value},Vals (ks.map kV) us->∀ (j:Nat) u,us[j]? =some u->∃ k,ks[j]? =some k/\(av P w).is k u=true
 | [],_,.nil,j,u,h=>by simp at h
 |k::ks,_,.cons r rs,0,u,h=>by
  simp at h;subst h;exact⟨k,rfl,lX r⟩
 |k::ks,_,.cons r rs,j+1,u,h=>by
  simp at h;obtain⟨k',e1,e2⟩:=zJ (P:=P) (w:=w) rs j u h;exact⟨k',by simpa using e1,e2⟩
def zM:∀ {ks:List Key}{ys:List V}{us:List Value},Vals ys us->KV (ks.zip ys) (ks.zip us)
 | [],_,_,_=>by simp[List.zip];exact .nil
 |_::_,_,_,.nil=>.nil
 |k::ks,_,_,.cons r rs=>.cons ⟨rfl,r⟩ (zM rs)
abbrev FG (K:W.Frag)(v u:V)(H:Hp)(Q:VK):Prop:=∃ tp1 l1 tp2 l2,∃ (ks:List Key) (ys:List V),v=.ref l1/\u=.ref l2/\Sq K tp1 H l1 (ks.map kV)/\Sq K tp2 H l2 ys/\ks.Nodup/\ks.length=ys.length/\ks.length<=1000/\∀ p,H p=none->Q (.ref p) (upd H p (.dK (ks.zip ys)))
abbrev Gm (K:W.Frag)(ta:TA):TE:=λU H Q=>ta U H λvs H1=>∃ v u,vs=[v,u]/\FG K v u H1 Q
def vZ {a b:Expr}{ta:TA}{p p2 pos2:Pos}(hc:X.calm=true)(hg:Gl X "dict") (hm:X.mg "dict"=none) (hg2:Gl X "zip") (hm2:X.mg "zip"=none) (ha:PA X [a,b] ta)
  (hs:bm [a,b] X.env=(false,eval a X.env)::bm [b] X.env:=by rfl) (hpl:(backTo pos2 (bm [b] X.env)).any (·.1)=false:=by rfl):
  PE X (.Call (.Name "dict" p) [.Call (.Name "zip" p2) [a,b] [] pos2] [] pos) (Gm X.K ta):=by
 intro Y s U H Q I h;have h1:bm [.Call (.Name "zip" p2) [a,b] [] pos2] X.env=[(false,eval (.Call (.Name "zip" p2) [a,b] [] pos2) X.env)]:=rfl;refine Call_ (cO I hg hm tV (PyProof.Rows.callWith_type1 ?_ h1 rfl));rw[h1];show wpAny _ _ (spliced ((false,eval (.Call (.Name "zip" p2) [a,b] [] pos2) X.env)::backTo pos [])) _ _ _;refine Calls.spliced_cons ?_;refine Call_ (cO I hg2 hm2 uR (PyProof.Rows.callWith_type1 (ar (ha pos2 Y s U H _ I h) λus s1 ⟨vs,H1,I1,r1,q1⟩=>?_) hs hpl));obtain⟨v,u,e,tp1,l1,tp2,l2,ks,ys,e1,e2,q1,q2,kn,kl,kz,q⟩:=q1;subst e e1 e2;cases r1 with
 |cons r rr=>
  cases rr with
  |cons r' rr'=>
   cases rr';cases r;cases r';obtain⟨is1,v1,t1⟩:=I1.sq q1;obtain⟨is2,v2,t2⟩:=I1.sq q2;refine nc t1 t2 λh' hz hI hO g1 g2 hsz hk=>?_
   refine Calls.spliced_nil ?_;have n1:is1.length=ks.length:=by rw[<-v1.length,ce]
   have n2:is2.length=ks.length:=by rw[<-v2.length,kl]
   refine jU (s:={ s1 with heap:=h' }) (knd:=av X.prog X.w) (I1.ok.hd hc) (t4 t1.lt t2.lt) ks (λj x hx=>zJ v1 j x (by simpa using hx)) (by simp;omega) kn (by simp;omega) (by simp;rw[n1];exact fits kz)
    ⟨.inl ⟨_,hz⟩,hI,⟨_,_,hO⟩,g1,g2,t1.to λo e=>hk _ o e,t2.to λo e=>hk _ o e⟩ ⟨_,hz⟩ λh2 t2' d2 f2=>?_
   have lt0:∀ {c o},s1.heap.get? c=some o->c<s1.heap.objs.size:=λe=>tz e
   have hfree:H1 h'.objs.size=none:=I1.hok.fresh (by rw[hsz];exact Nat.le_add_right _ _);refine⟨.ref h'.objs.size,_,I1.laid (a:=h'.objs.size) (o:=.dK (ks.zip ys)) (t':=t2') (λc o e=>?_) (by rw[hsz];exact Nat.le_add_right _ _) ⟨?_,?_,_,zM v2,by simpa using d2⟩,rfl,q _ hfree⟩
   .have hl:=lt0 e;refine f2 c o (pc (nb hl (Nat.le_add_right _ _))) (pc (nb hl (Nat.le_add_right _ _))) (pc hl) (pc (nb hl (Nat.le_add_right _ _))) (hk c o e)
   .rw[List.length_zip];exact fits (Nat.le_trans (Nat.min_le_left _ _) kz)
   .exact beq_eq_false_iff_ne.mpr (Nat.ne_of_gt (nb I1.big (by rw[hsz];exact Nat.le_add_right _ _)))
section
variable {X:Cx}{Y:GD}{U:St}{H:Hp}{s:Shared}{a:Addr}{kvs:List (Key×V)}{A:Around}{E:GC}
def vc {Q:GC}(I:Inv X Y U H s)(e:Rd H a (.dK kvs))(h:∀ p s',H p=none->Inv X Y U (upd H p (.dK kvs)) s'->Q (.ref p) s'):wpAny (model X.prog X.w) A (call (.type "dict") [.ref a]) Q E s:=by
 obtain⟨z,hd,vs,rel,dd⟩:=hJ I.hok e;refine kt_call_dict hd dd (by rw[<-rel.length];exact z) λh' dd' hs=>?_
 refine h _ _ (I.hok.fresh (pi _)) (I.laid (a:=s.heap.objs.size) (o:=.dK kvs) (t':=s.toks) (λb q hq=>?_) (pi _) (nW z (beq_eq_false_iff_ne.mpr (Ne.symm (pc I.big))) rel dd'));exact(hs.2 b (pc (tz hq))).trans (sK _ hq)
end
variable {A:Around}
section
variable {X:Cx}{Y:GD}{U:St}{H:Hp}{s:Shared}
def ly {x:V}{u t:Value}(I:Inv X Y U H s)(rx:RelV x u)(ty:fw X.K H x t):∃ P:Heap->Prop,KitX X.K u t P/\P s.heap/\u≠.builtin "__main__.__loader__#opaque":=by
 cases ty with
 |non=>cases(show u=Value.none from rx);exact⟨_,kitx_none,True.intro,λz=>nomatch z⟩
 |bl y=>cases(show u=Value.bool y from rx);exact⟨_,kitx_bool,True.intro,λz=>nomatch z⟩
 |int i=>obtain⟨t,q⟩:=(show ∃ t,u=Value.int i t from rx);cases q;exact⟨_,kitx_int,True.intro,λz=>nomatch z⟩
 |str y=>obtain⟨t,q⟩:=(show ∃ t,u=Value.str y t from rx);cases q;exact⟨_,kitx_str,True.intro,λz=>nomatch z⟩
 |flt y=>obtain⟨t,q⟩:=(show ∃ t,u=Value.float y t from rx);cases q;exact⟨_,kitx_float,True.intro,λz=>nomatch z⟩
 | @lst a xs ea=>
  cases(show u=Value.ref a from rx);obtain⟨_,_,n,_,h1⟩:=(show ak X.prog X.w H s.heap a (.lst xs) from I.hok a _ ea);exact⟨_,kitx_list,⟨_,h1,rfl⟩,λz=>nomatch z⟩
 | @fZ a ob xs ea=>
  cases(show u=Value.ref a from rx);obtain⟨_,_,_,n,_,h1⟩:=(show ak X.prog X.w H s.heap a (.fZ ob (.lst xs)) from I.hok a _ ea);exact⟨_,kitx_list,⟨_,h1,rfl⟩,λz=>nomatch z⟩
 | @tup a xs ea=>
  cases(show u=Value.ref a from rx);obtain⟨_,_,_,p⟩:=(show ak X.prog X.w H s.heap a (.tup xs) from I.hok a _ ea);obtain⟨o,h1,h2,_⟩:=p;exact⟨_,kitx_tuple,⟨o,h1,h2⟩,λz=>nomatch z⟩
 | @dK a kvs ea=>
  cases(show u=Value.ref a from rx);obtain⟨_,_,vs,_,p⟩:=(show ak X.prog X.w H s.heap a (.dK kvs) from ea.ok I.hok);obtain⟨o,es,ep,h1,h2,_⟩:=p;exact⟨_,kitx_dict,⟨o,h1,h2.1⟩,λz=>nomatch z⟩
 | @dT a kvs ea=>
  cases(show u=Value.ref a from rx);obtain⟨_,_,xs,_,o,es,ep,h1,h2,_⟩:=(show ak X.prog X.w H s.heap a (.dT kvs) from I.hok a _ ea);exact⟨_,kitx_dict,⟨o,h1,h2.1⟩,λz=>nomatch z⟩
 | @ins a C dx fs ea cl ha hn htk hm=>
  cases(show u=Value.ref a from rx);obtain⟨mA,O,_⟩:=dO I.hok ea;obtain⟨od,J,_⟩:=O.look;exact⟨_,kitx_own (cl.get _) cl.hd ha hn htk hm,J,λz=>nomatch z⟩
def kN {Q:GC}{u t:Value}{p:Addr}{cs:List Addr}{b:Bool}{P:Heap->Prop}(I:Inv X Y U H s)(Z:KitX X.K u t P)(hp:P s.heap)(hx:u≠.builtin "__main__.__loader__#opaque")
  (ep:H p=some (.tup (cs.map V.ref))) (e:kitAny X.K t (cs.map Value.ref)=some b) (h:∀ tk,Q (.bool b) { s with toks:=tk }):wpAny (model X.prog X.w) A (call (.builtin "isinstance") [u,.ref p]) Q E s:=by
 obtain⟨its,r,pl,_⟩:=I.tuple (ba.of ep);have er:∀ {cs:List Addr}{us:List Value},Vals (cs.map V.ref) us->us=cs.map Value.ref:=by
  intro cs
  induction cs with
  |nil=>intro us h;cases h;rfl
  |cons c cs ih=>
   intro us h;cases h with
   |cons r1 r2=>
    rw[ih r2,show _=Value.ref c from r1]
    rfl
 obtain rfl:=er r;obtain⟨⟨c,d,da,sl⟩,h1,h2,n,h3⟩:=(show s.heap.IsTuple p (cs.map Value.ref).toArray from pl);subst h2;obtain rfl:=h3;exact kia_tup Z I.bg hp h1 e hx h
end
def qu:∀ {ns:List Int}{us:List Value},Vals (ns.map V.int) us->∃ xs:List (Int×Tok),us=xs.map (λp=>Value.int p.1 p.2)/\xs.map (·.1)=ns
 | [],_,h=>by cases h;exact⟨[],rfl,rfl⟩
 |n::ns,_,h=>by
  cases h with
  |cons r1 r2=>
   obtain⟨t,rfl⟩:=r1;obtain⟨xs,rfl,e⟩:=qu r2;exact⟨(n,t)::xs,rfl,by simp[e]⟩
def qE (hc:X.calm=true):bU X (.builtin "min") (λxs H Q=>∃ p,∃ (ns:List Int) (m:Int),xs=[.ref p]/\aN X.K H p (ns.map V.int)/\m ∈ ns/\(∀ a ∈ ns,m<=a)/\Q (.int m) H):=by
 intro Y s U H xs us Q I r h;obtain⟨p,ns,m,rfl,hq,hm,hl,q⟩:=h;obtain⟨u,rfl,rx⟩:=vals1 r;cases rx;obtain⟨its,r',pl,hz⟩:=I.list hq;obtain⟨ps,rfl,en⟩:=qu r';have hL:s.heap.IsList p (intItems ps.toArray):=by
  have:=pl.isList;simpa[intItems] using this
 have h0:0<ps.toArray.size:=by
  rw[ge];cases ps with
  |nil=>simp at en;subst en;simp at hm
  |cons=>simp
 refine min_intList (I.ok.hd hc) hL h0 λv h' tk hv hk=>?_
 obtain⟨t,rfl⟩:=intItems_at hv;obtain⟨h1,h2⟩:=argBest_lt (numAt ps.toArray) (ps.toArray.size-1);have at_:∀ j,j<ps.length->numAt ps.toArray j ∈ ns:=λj hj=>by
  rw[<-en];refine List.mem_map.mpr ⟨ps[j],getElem_mem hj,?_⟩;simp[numAt,hj]
 rw[ge]at h0 h1 h2;have e:numAt ps.toArray (argBest (λi j=>decide (numAt ps.toArray i<numAt ps.toArray j)) (ps.toArray.size-1))=m:=by
  refine Int.le_antisymm ?_ (hl _ (at_ _ ?_))
  .rw[<-en]at hm;obtain⟨x,hx,rfl⟩:=List.mem_map.mp hm;obtain⟨j,hj,rfl⟩:=List.mem_iff_getElem.mp hx;have:=h2 j nofun;have e2:numAt ps.toArray j=ps[j].1:=by simp[numAt,hj]
   rw[e2]at this;simpa using this
  .rw[ge]
   omega
 rw[e];exact⟨.int m,H,I.kept hk,⟨_,rfl⟩,q⟩
def DP (d:Addr)(hd:(d ==sysModules)=false)(dd:Option Addr)(ep:Nat)(sl:Array (Option Value)):Meets (Builtin.«dict.__eq__» ⟨[.ref d,.ref d],[]⟩) (λ_ R s=>s.heap.get? d=some ⟨.type "dict",dd,.dict #[] ep,sl⟩/\R (.ok (.ret (.bool true))) s):=by
 intro prog w A R s hs;obtain⟨h,g,dp,tt,os⟩:=s;obtain⟨ho,q⟩:=hs;have hT:(⟨h,g,dp,tt,os⟩:Shared).TypeIs (.ref d) "dict":=⟨_,ho,rfl⟩;unfold Builtin.«dict.__eq__»
 k_delta "equality"
 unfold Builtin.Dict.dictSlotArgs;refine ad (ad (wpAny_notOrdered_dict hT ?_));show wpAny _ _ (pure (Value.ref d,[Value.ref d]) >>= _) _ _ _;refine ad (am (am ?_));have hi:=PySem.F.kt_sub_dict;show wpAny _ _ (isInstance (.ref d) (.type "dict") >>= _) _ _ _;unfold Builtin.Dict.samePairs;simp only[Std.Legacy.Range.forIn_eq_forIn_range']
 repeat(any_goals first|assumption|wp_step)
variable {dd:Option Addr}{sl:Array (Option Value)}
def DK (hd:(d ==sysModules)=false){ep:Nat}(ho:s.heap.get? d=some ⟨.type "dict",dd,.dict #[] ep,sl⟩) (hu:A.units<cLine):SeqAt.RcAt A s (.ref d) (.ref d) true:=λprog w E Q h=>
 richCompare_meets_room (op:=.Eq) ⟨_,ho,rfl⟩ ⟨_,ho,rfl⟩ PySem.F.slot_dict_eq PySem.F.entry_dict_eq (PySem.F.args_dict_eq_2 _ _) (DP d hd dd ep sl) ⟨ho,show Value.bool true≠Value.notImplemented/\Q (.bool true) s from⟨(λx=>nomatch x),h⟩⟩ hu
abbrev nq (K:W.Frag)(H:Hp)(a:Addr):Prop:=(∃ xs,aN K H a xs)\/(∃ xs,ba K H a xs)\/H a=some (.dK [])
def w6 {a:Addr}(I:Inv X Y U H s)(h:nq X.K H a)(hu:A.units+2<cLine):SeqAt.RcAt A s (.ref a) (.ref a) true:=by
 rcases h with⟨xs,h⟩|⟨xs,h⟩|h
 .obtain⟨ia,ra,pa,_⟩:=I.list h;have rc:=SeqAt.RcAt.lists (A:=A) (e:=λ_=>true) pa.isList pa.isList rfl nofun λj h1 h2=>SeqAt.EqAt.same _
  have e:(List.range ia.toArray.size).all (λ_=>true)=true:=by simp
  rwa [e]at rc
 .obtain⟨ia,ra,pa,_⟩:=I.tuple h;have rc:=SeqAt.RcAt.tuples (A:=A) (e:=λ_=>true) (show s.heap.IsTuple a ia.toArray from pa) (show s.heap.IsTuple a ia.toArray from pa) nofun λj h1 h2=>SeqAt.EqAt.same _
  have e:((List.range (min ia.toArray.size ia.toArray.size)).all (λ_=>true)&&ia.toArray.size ==ia.toArray.size)=true:=by simp
  rwa [e]at rc
 .obtain⟨z,hd,vs,rel,dd⟩:=hJ I.hok (.inl h);cases rel;obtain⟨⟨c,d,da,sl⟩,es,ep,ho,hx,he,_,hp,_⟩:=dd;have e0:es=#[]:=by
   cases hp':es.toList with
   |nil=>exact Array.toList_eq_nil_iff.mp hp'
   |cons a b=>rw[hp']at hp;cases hp
  subst e0;obtain rfl:da=.dict #[] ep:=he;obtain⟨rfl,_⟩:=hx;exact DK hd ho nofun
section
variable {prog:Program}{w:World}{A:Around}{E:GC}{s:Shared}{T:String}{r d:Addr}{n:Nat}{P:Nat->Value->Prop}{OK:Heap->Prop}
end
abbrev ku (tp:Bool):String:=match tp with
 |true=>"tuple"
 |false=>"list"
abbrev uY (K:W.Frag)(C:Addr):Bool:=findIn K (.ref C) "__eq__" ==some (some (.builtin "object.__eq__"))&&subIn K (.ref C) (.type "str") ==some false&&subIn K (.ref C) (.type "object") ==some true
def nD {prog:Program}{w:World}{K:Frag}{C:Addr}{R:Result->Shared->Prop}(X:K.In s.heap)(hm:makesIn K C=true)(hi:findIn K (.ref C) "__init__"=some (some (.builtin "object.__init__")))
  (h:R (.ok (.ret (.ref (s.heap.objs.size+1)))) { s with heap:=(s.heap.push emptyDict).push (instObj C s.heap.objs.size) }):codeAny (model prog w) A (.call (.ref C) ⟨[],[]⟩) R s:=by
 obtain⟨hh,g,d,t,os⟩:=s;have Y:=makes_of (M:=model prog w) X hm;refine make_core Y (looks_findIn X hi) (λz=>Looks.of_pure (oi_bind z)) (.inr ⟨rfl,rfl⟩) ?_;have k:∀ b o,hh.get? b=some o->((hh.push emptyDict).push (instObj C hh.objs.size)).get? b=some o:=λb o e=>sK _ (sK _ e)
 have hx:((hh.push emptyDict).push (instObj C hh.objs.size)).get? (hh.objs.size+1)=some (instObj C hh.objs.size):=by heap_get
 have t1:Looks (model prog w) ((hh.push emptyDict).push (instObj C hh.objs.size)) (typeOf (.ref (hh.objs.size+1))) (.ref C):=Looks.andThen (Looks.ld hx) .now;have t2:Looks (model prog w) ((hh.push emptyDict).push (instObj C hh.objs.size)) (isInstance (.ref (hh.objs.size+1)) (.type "object")) true:=t1.andThen (Y.top.keeps k);refine codeAny_call_builtin oi_plain entry_oi (@check_slot (model prog w) _ _ _ "object.__init__" "object" "__init__" (.ref (hh.objs.size+1)) [] [] _ oi_kind oi_split t2 (oi_args _) ?_);rw[oi_run];exact am ⟨rfl,h⟩
structure FY (K:Frag) (C:Addr):Prop where
 makes:makesIn K C=true
 init:findIn K (.ref C) "__init__"=some (some (.builtin "object.__init__"))
 kp:keepIn K (.ref C)=true
abbrev Ey (C:Addr):TE:=λ_ H Q=>∀ x dx,H x=none->H dx=none->dx≠x->Q (.ref x) (upd (upd H dx (.own x)) x (.ins C dx []))
def tE {C:Addr}{x:Str}{p:Pos}(M:FY X.K C)(hg:Gl X x)(hm:X.mg x=some (.ref C))(hdb:(x ==("__debug__":Str))=false):PE X (.Call (.Name x p) [] [] pos) (Ey C):=by
 intro Y s U H Q I h;refine bv (aV I hg hm ?_ hdb);refine W.callWith_K0 I.bg M.kp (wpAny_call (nD I.bg M.makes M.init ?_));have I2:=Inv.made (C:=C) I;exact⟨.ref (s.heap.objs.size+1),_,I2,rfl,h (s.heap.objs.size+1) s.heap.objs.size (I.hok.fresh (Nat.le_succ _)) (I.hok.fresh (pi _)) (pc (Nat.lt_succ_self _))⟩
@[reducible]def VV:List (V×V)->List (Value×Value)->Prop:=Paired λp q=>RelV p.1 q.1/\RelV p.2 q.2
abbrev PQ (X:Cx)(pos:Pos)(keys:List (Option Expr))(values:List Expr)(t:St->Hp->(List (V×V)->Hp->Prop)->Prop):Prop:=
 ∀ (Y:GD) (s:Shared) (U:St) (H:Hp) (Q:List (V×V)->Hp->Prop),Inv X Y U H s->t U H Q->
  wpAny (model X.prog X.w) X.A (evalPairs (pairTrees keys values X.env pos)) (λvs s'=>∃ ps H',Inv X Y U H' s'/\VV ps vs/\Q ps H') X.xe s
def Af:PQ X pos [] [] (λ_ H Q=>Q [] H):=λY s U H Q I h=>pairTrees_nil_walk ⟨[],H,I,.nil,h⟩
variable {t:St->Hp->(List (V×V)->Hp->Prop)->Prop}
def wb {k v:Expr}{ks:List (Option Expr)}{vs:List Expr}{tk tv:TE}(hk:PE X k tk)(hv:PE X v tv)(hr:PQ X pos ks vs t):
  PQ X pos (some k::ks) (v::vs) (λU H Q=>tk U H λx H1=>tv U H1 λy H2=>t U H2 λps H3=>Q ((x,y)::ps) H3):=λY s U H Q I h=>
 pairTrees_cons_walk (ar (hk Y s U H _ I h) λu s1 ⟨x,H1,I1,rx,q1⟩=>ar (hv Y s1 U H1 _ I1 q1) λw2 s2 ⟨y,H2,I2,ry,q2⟩=>
  ar (hr Y s2 U H2 _ I2 q2) λws s3 ⟨ps,H3,I3,rel,q3⟩=>⟨(x,y)::ps,H3,I3,.cons ⟨rx,ry⟩ rel,q3⟩)
abbrev fU (kvs more:List (Key×V)):List (Key×V):=more.foldl (λacc kv=>putK acc kv.1 kv.2) kvs
def KV.merge:∀ {more:List (Key×V)}{rs:List (Key×Value)}{kvs:List (Key×V)}{vs:List (Key×Value)},KV more rs->KV kvs vs->KV (fU kvs more) (merged vs rs):=by
 intro more rs kvs vs r;unfold KV at r
 induction r generalizing kvs vs with
 |nil=>intro q;exact q
 | @cons p q ps qs h t ih=>
  intro r0;have e:KV (putK kvs p.1 p.2) (stored vs q.1 q.2):=by
   have:=r0.put p.1 h.2;rw[<-h.1];exact this
  exact ih e
def eg:∀ (more kvs:List (Key×V)),(fU kvs more).length<=kvs.length+more.length
 | [],kvs=>by show kvs.length<=kvs.length+0;omega
 |p::r,kvs=>by
  have h1:=eg r (putK kvs p.1 p.2);have h2:=dr kvs p.1 p.2;show(fU (putK kvs p.1 p.2) r).length<=_;rw[length_cons];omega
def ic {P:Program}{w:World}:∀ {kvs:List (Key×V)}{ws:List (Value×Value)},VV (kvs.map λkv=>(kV kv.1,kv.2)) ws->∃ rs,Carries (av P w) ws rs/\KV kvs rs
 | [],_,r=>by rw[List.map_nil]at r;cases r;exact⟨[],True.intro,.nil⟩
 |p::kvs,_,r=>by
  rw[map_cons]at r;cases r with
  | @cons a b as bs h t=>
   obtain⟨rs,c,q⟩:=ic (P:=P) (w:=w) t;obtain⟨b1,b2⟩:=b;exact⟨(p.1,b2)::rs,⟨lX h.1,rfl,c⟩,.cons ⟨rfl,h.2⟩ q⟩
abbrev Cn (t:St->Hp->(List (V×V)->Hp->Prop)->Prop):TE:=λU H Q=>∀ p,H p=none->t U (upd H p (.dK [])) λps H2=>H2 p=some (.dK [])/\∃ kvs:List (Key×V),ps=kvs.map (λkv=>(kV kv.1,kv.2))/\kvs.length<=15/\Q (.ref p) (upd H2 p (.dK (fU [] kvs)))
def yu {keys:List (Option Expr)}{values:List Expr}(h:PQ X pos keys values t)(hall:keys.all (·.isSome)=true)(hl:keys.length=values.length)(h0:keys≠[])
  (h15:keys.length<=15):PE X (.Dict keys values pos) (Cn t):=by
 intro Y s U H Q I q;have hn:=I.hok.fresh (pi s.heap.objs.size);have I1:=I.laid (a:=s.heap.objs.size) (o:=.dK []) (h':=s.heap.push { cls:=.type "dict",data:=.dict #[] }) (t':=s.toks) (λ_ _ q=>sK _ q) (pi _) (l6 s.heap I.big);refine wpAny_Dict_walk (knd:=av X.prog X.w) hall hl h0 h15 (ar (h Y _ U _ _ I1 (q _ hn)) λws s2 ⟨ps,H2,I2,rel,e,kvs,ep,lk,q2⟩=>?_);subst ep;obtain⟨rs,c,rk⟩:=ic (P:=X.prog) (w:=X.w) rel;obtain⟨z,hd,vs0,r0,dd⟩:=zA I2.hok e;cases r0;refine⟨rs,c,dd,λh' dd' hs=>⟨.ref s.heap.objs.size,_,?_,rfl,q2⟩⟩;have hz:(fU [] kvs).length<=bn:=by
  have h1:=eg kvs [];rw[length_nil]at h1;rw[sizeLine_eq];omega
 have he:∃ q,h'.get? s.heap.objs.size=some q:=let⟨q,_,_,hq,_⟩:=dd';⟨q,hq⟩;exact kF I2 (by rw[e];exact True.intro) hs he (nW hz hd (rk.merge .nil) dd')
abbrev ie (K:W.Frag)(C:Addr):Bool:=findIn K (.ref C) "__ne__" ==some (some (.builtin "object.__ne__"))&&uY K C
section
variable {A:Around}{s:Shared}{l C dx:Addr}{od:Option Obj}{K:W.Frag}{prog:Program}{w:World}{E:GC}
def Dc (X:K.In s.heap)(I:InstAt s.heap l (instObj C dx) C od)(h1:findIn K (.ref C) "__eq__"=some (some (.builtin "object.__eq__"))) (h3:subIn K (.ref C) (.type "object")=some true) (h:Q (some (.bool true)) s):wpAny (model prog w) A (callSpecialIfBound? (.ref l) "__eq__" [.ref l]) Q E s:=by
 simp only[callSpecialIfBound?,bindSpecialIfBound?];refine bd (ad (ad (ad (I.type.here ((looks_findIn X h1).here ?_)))));simp only[PySem.F.cmp_object.eq.bind];have fin:wpAny (model prog w) A (call (.builtin "object.__eq__") ([.ref l]++[.ref l]) >>= λv=>pure (some v)) Q E s:=by
  refine ad (wpAny_call (codeAny_call_builtin PySem.F.cmp_object.eq.plain PySem.F.cmpEntry_eq ?_));simp only[checkBuiltinCall,PySem.F.cmpKind_eq,PySem.F.cmpSplit_eq];refine ad (ad (I.type.here ((looks_subIn X h3).here ?_)));rw[if_neg (by simp)];have ha:=PySem.F.cmpArgs_eq (.ref l) (.ref l);have h0:(match Manifest.signature? "object.__eq__" with|some sig=>Bind.checkArgs "object.__eq__" sig { pos:=[Value.ref l]++[Value.ref l] }|x=>pure ())=pure ():=ha;refine wpAny_of_eq h0 ?_;exact objEq_entry_same (am h)
 refine ad (wpAny_askSetting (wpAny_ite ?_))
 split
 .exact ad (am (am fin))
 .exact wpAny_tryCatch (ad (am (am fin)))
def Dn (X:K.In s.heap)(I:InstAt s.heap l (instObj C dx) C od)(h1:findIn K (.ref C) "__eq__"=some (some (.builtin "object.__eq__"))) (h2:findIn K (.ref C) "__ne__"=some (some (.builtin "object.__ne__"))) (h3:subIn K (.ref C) (.type "object")=some true) (hu:A.units+2<cLine) (h:Q (some (.bool false)) s):wpAny (model prog w) A (callSpecialIfBound? (.ref l) "__ne__" [.ref l]) Q E s:=by
 simp only[callSpecialIfBound?,bindSpecialIfBound?];refine bd (ad (ad (ad (I.type.here ((looks_findIn X h2).here ?_)))));simp only[PySem.F.cmp_object.ne.bind];have fin:wpAny (model prog w) A (call (.builtin "object.__ne__") ([.ref l]++[.ref l]) >>= λv=>pure (some v)) Q E s:=by
  refine ad (wpAny_call (codeAny_call_builtin PySem.F.cmp_object.ne.plain PySem.F.cmpEntry_ne ?_));simp only[checkBuiltinCall,PySem.F.cmpKind_ne,PySem.F.cmpSplit_ne];refine ad (ad (I.type.here ((looks_subIn X h3).here ?_)));rw[if_neg (by simp)];have ha:=PySem.F.cmpArgs_ne (.ref l) (.ref l);have h0:(match Manifest.signature? "object.__ne__" with|some sig=>Bind.checkArgs "object.__ne__" sig { pos:=[Value.ref l]++[Value.ref l] }|x=>pure ())=pure ():=ha;refine wpAny_of_eq h0 ?_;unfold Builtin.«object.__ne__»;show wpAny _ _ (pure (Value.ref l,[Value.ref l]) >>= _) _ _ _;refine ad (am ?_);refine ad (wpAny_cRoomFor (show A.units+1<cLine by omega) ?_);refine ad (Dc X I h1 h3 ?_);refine ad (bi ?_);exact am (am h)
 refine ad (wpAny_askSetting (wpAny_ite ?_))
 split
 .exact ad (am (am fin))
 .exact wpAny_tryCatch (ad (am (am fin)))
def qW (X:K.In s.heap)(I:InstAt s.heap l (instObj C dx) C od)(hC:ie K C=true)(hu:A.units+3<cLine):SeqAt.RcNeAt A s (.ref l) (.ref l) false:=λprog w E Q h=>by
 unfold ie uY at hC;simp only[lw,beq_iff_eq]at hC;obtain⟨h0,⟨h1,h2⟩,h3⟩:=hC;simp only[richCompare,PySem.cmpInfo_NotEq]
 try with_reducible refine bd ?_
 refine ad (wpAny_cRoomFor nofun ?_);show wpAny _ _ (typeOf (Value.ref l) >>= _) _ _ _;refine ad (I.type.here (ad (I.type.here ?_)));rw[if_neg (by simp)];refine ad (am ?_);rw[if_neg (by simp)];refine ad ?_;simp only[tryCompare];refine ad (Dn X I h1 h0 h3 nofun ?_);exact am (am h)
def CU (d:Addr)(hd:(d ==sysModules)=false)(dd:Option Addr)(ep:Nat)(sl:Array (Option Value)):Meets (Builtin.«dict.__ne__» ⟨[.ref d,.ref d],[]⟩) (λ_ R s=>s.heap.get? d=some ⟨.type "dict",dd,.dict #[] ep,sl⟩/\R (.ok (.ret (.bool false))) s):=by
 intro prog w A R s hs;obtain⟨h,g,dp,tt,os⟩:=s;obtain⟨ho,q⟩:=hs;have hT:(⟨h,g,dp,tt,os⟩:Shared).TypeIs (.ref d) "dict":=⟨_,ho,rfl⟩;unfold Builtin.«dict.__ne__»
 k_delta "equality"
 unfold Builtin.Dict.dictSlotArgs;refine ad (ad (wpAny_notOrdered_dict hT ?_));show wpAny _ _ (pure (Value.ref d,[Value.ref d]) >>= _) _ _ _;refine ad (am (am ?_));have hi:=PySem.F.kt_sub_dict;show wpAny _ _ (isInstance (.ref d) (.type "dict") >>= _) _ _ _;unfold Builtin.Dict.samePairs;simp only[Std.Legacy.Range.forIn_eq_forIn_range']
 repeat(any_goals first|assumption|wp_step)
def xW (hd:(d ==sysModules)=false){ep:Nat}(ho:s.heap.get? d=some ⟨.type "dict",dd,.dict #[] ep,sl⟩) (hu:A.units<cLine):SeqAt.RcNeAt A s (.ref d) (.ref d) false:=λprog w E Q h=>
 richCompare_meets_room (op:=.NotEq) ⟨_,ho,rfl⟩ ⟨_,ho,rfl⟩ PySem.F.slot_dict_ne PySem.F.entry_dict_ne (PySem.F.args_dict_ne_2 _ _) (CU d hd dd ep sl) ⟨ho,show Value.bool false≠Value.notImplemented/\Q (.bool false) s from⟨(λx=>nomatch x),h⟩⟩ hu
abbrev nB (K:W.Frag)(H:Hp)(a:Addr):Prop:=(∃ xs,ba K H a xs)\/H a=some (.dK [])\/(∃ C dx fs,H a=some (.ins C dx fs)/\ie K C=true)\/∃ xs,aN K H a xs
def xg {a:Addr}(I:Inv X Y U H s)(h:nB X.K H a)(hu:A.units+3<cLine):SeqAt.RcNeAt A s (.ref a) (.ref a) false:=by
 rcases h with⟨xs,h⟩|h|⟨C,dx,fs,h,hn⟩|⟨xs,h⟩
 .obtain⟨ia,ra,pa,_⟩:=I.tuple h;have rc:=SeqAt.RcNeAt.tuples (A:=A) (e:=λ_=>true) (show s.heap.IsTuple a ia.toArray from pa) (show s.heap.IsTuple a ia.toArray from pa) nofun λj h1 h2=>SeqAt.EqAt.same _
  have e:((List.range (min ia.toArray.size ia.toArray.size)).all (λ_=>true)&&ia.toArray.size ==ia.toArray.size)=true:=by simp
  rw[e]at rc;exact rc
 .obtain⟨z,hd,vs,rel,dd⟩:=hJ I.hok (.inl h);cases rel;obtain⟨⟨c,d,da,sl⟩,es,ep,ho,hx,he,_,hp,_⟩:=dd;have e0:es=#[]:=by
   cases hp':es.toList with
   |nil=>exact Array.toList_eq_nil_iff.mp hp'
   |cons a b=>rw[hp']at hp;cases hp
  subst e0;obtain rfl:da=.dict #[] ep:=he;obtain⟨rfl,_⟩:=hx;exact xW hd ho nofun
 .obtain⟨mA,o,_⟩:=dO I.hok h;obtain⟨od,i,_⟩:=o.look;exact qW I.bg i hn hu
 .obtain⟨ia,ra,pa,_⟩:=I.list h;have rc:=SeqAt.RcNeAt.lists (A:=A) (e:=λ_=>true) pa.isList pa.isList rfl nofun λj h1 h2=>SeqAt.EqAt.same _
  have e:(List.range ia.toArray.size).all (λ_=>true)=true:=by simp
  rw[e]at rc;exact rc
end
end L2
namespace L2
open PySem PySem.Spec PyProof.Rows
section
variable {X:Cx}{tg:Expr}
end
end L2
namespace L2
open PySem PySem.Spec PySem.W PyProof.Rows
open PySem.AutoSeq1 (wpAny_loadPart')
section
variable {prog:Program}{w:World}{A:Around}{E:GC}{s:Shared}
end
section
variable {X:Cx}{Y:GD}{U:St}{H:Hp}{s:Shared}
end
section
variable {prog:Program}{w:World}{A:Around}{E:GC}{s:Shared}
variable {z TI TO i1 i2 i3 l1 l2 l3:Addr}{k1 k2 k3:Nat}{tp1 tp2 tp3:Bool}{xs ys zs:Array Value}{x y v a b c f1:Value}
end
variable {X:Cx}{e es:Expr}{te:TE}{ts:TO}{p2 pos:Pos}
def qh:∀ {xs:List V}{us:List Value},xs.length=us.length->(∀ (j:Nat) (x:V) (u:Value),xs[j]? =some x->us[j]? =some u->RelV x u)->Vals xs us
 | [],[],_,_=>.nil
 |x::xs,u::us,e,h=>.cons (h 0 x u rfl rfl) (qh (Nat.succ.inj e) λj a b e1 e2=>h (j+1) a b e1 e2)
def qa:∀ {kvs:List (Key×V)}{vs:List (Key×Value)},KV kvs vs->kvs.map (·.1)=vs.map (·.1)
 |_,_,.nil=>rfl
 |_,_,.cons r rs=>by rw[map_cons,map_cons,r.1,qa rs]
def oy {Y:GD}{U:St}{H:Hp}{s:Shared}{Q:VK}{d:Addr}{kvs:List (Key×V)}(hc:X.calm=true)(I:Inv X Y U H s)(e:Rd H d (.dK kvs))(q:∀ p,H p=none->Q (.ref p) (upd H p (.lst (kvs.map (λkv=>kV kv.1))))):
  wpAny (model X.prog X.w) X.A (call (.type "list") [.ref d]) (EP X Y U Q) X.xe s:=by
 obtain⟨hz,hd,vs,rel,dd⟩:=hJ I.hok e;obtain⟨o,es,ep,ho,hx,he,hk,hp,hn⟩:=dd;have hA:s.heap.DictAt (av X.prog X.w) d vs ep:=⟨o,es,ho,hx,he,hk,hp,hn⟩;have hl:vs.length<=bn:=by rw[<-rel.length];exact hz
 refine kdl_call (kdl_dict hd) (I.ok.hd hc) hA hl λh' tk acc c' hk' hD hi=>?_
 have r:Vals (kvs.map (λkv=>kV kv.1)) acc.toList:=qh ((ce ..).trans (rel.length.trans (hi.1.symm.trans Array.length_toList.symm))) λj x u e1 e2=>by
  rw[im]at e1;obtain⟨⟨k,y⟩,ek,rfl⟩:=mo.mp e1;obtain⟨k',y',ek',hs⟩:=hi.2 j u (by rw[<-Array.getElem?_toList];exact e2);have ekk:k=k':=by
   have h2:(kvs.map (·.1))[j]? =(vs.map (·.1))[j]? :=by rw[qa rel]
   rw[im,im,ek,ek']at h2;exact Option.some.inj h2
  subst ekk;rcases ax hs with⟨i,t,rfl,rfl⟩|⟨z,t,rfl,rfl⟩
  .exact⟨t,rfl⟩
  .exact⟨t,rfl⟩
 exact⟨.ref _,_,I.laid (t':=tk) hk' (pi _) (show ak X.prog X.w _ h' _ (.lst (kvs.map (λkv=>kV kv.1))) from⟨by rw[ce];exact hz,acc.toList,c',r,by rw[Array.toArray_toList];exact hD⟩),rfl,q _ (I.hok.fresh (pi _))⟩
end L2
namespace L2
open PySem PySem.Spec PyProof.Rows
abbrev B9 (z:Str):It:=⟨λi _=>i<z.cps.size,λi H x H'=>H'=H/\∃ c,z.cps[i]? =some c/\x=.str ⟨#[c]⟩,λi _=>z.cps.size<=i⟩
def uG {P:Program}{w:World}{K:W.Frag}{tg:Expr}(it:Addr)(z:Str)(t:Tok):Turn P w K Calm tg (B9 z) [it] it (λi h=>h.IsStrIter it (strIterType z) z t i) where
 mem:=by simp
 obj:=λi h st b hb=>by
  have e:b=it:=by simpa using hb
  subst e;obtain⟨o,e,c,d⟩:=st;exact⟨o,e,λv z=>by rw[d]at z;cases z⟩
 keep:=λi h h' st k=>let⟨o,ho,r⟩:=st;⟨o,k it (by simp) o ho,r⟩
 item:=by
  intro X hP hw hK hc i Y s U H E I hf st hg;subst hP hw hK;obtain⟨f0,f1,f2,f3,f4,f5⟩:=hf it (by simp);have go:∀ T,(T="str_ascii_iterator"\/T="str_iterator")->strIterType z=T->wpAny (model X.prog X.w) X.A (pyNext (.ref it)) (λr s1=>∃ u,r=some u/\
   wpAny (model X.prog X.w) X.A (letOwnedTupleGo tg (.ref it) u) (λ_ s2=>∃ x H',Inv X Y U H' s2/\RelV x u/\(B9 z).yld i H x H'/\s2.heap.IsStrIter it (strIterType z) z t (i+1)/\∀ b ∈ [it],H' b=none) E s1) E s:=by
   intro T hT eT;rw[eT]at st⊢;have fin:∀ v h' tk,SignAt z i v->h'.IsStrIter it T z t (i+1)->(∀ b o,b ∉ [it]->s.heap.get? b=some o->h'.get? b=some o)->∃ u,some v=some u/\
    wpAny (model X.prog X.w) X.A (letOwnedTupleGo tg (.ref it) u) (λ_ s2=>∃ x H',Inv X Y U H' s2/\RelV x u/\(B9 z).yld i H x H'/\s2.heap.IsStrIter it T z t (i+1)/\∀ b ∈ [it],H' b=none) E { s with heap:=h',toks:=tk }:=by
    intro v h' tk hv st' kk;obtain⟨c,u,hc',rfl⟩:=hv;have I1:Inv X Y U H { s with heap:=h',toks:=tk }:=I.turned (λb o hb e=>kk b o (by simpa using hb) e) f0 f1 f3 f4 f5;obtain⟨o,e,cc,d⟩:=id st';exact⟨_,rfl,mL (s:={ s with heap:=h',toks:=tk }) e cc d (by rcases hT with rfl|rfl<;>decide) ⟨.str ⟨#[c]⟩,H,I1,⟨u,rfl⟩,⟨rfl,c,hc',rfl⟩,st',λb hb=>(hf b hb).1⟩⟩
   rcases hT with rfl|rfl
   .exact(Walks.strAscii (prog:=X.prog) (w:=X.w) (I.ok.hd hc) it z t).item i s _ _ hg st fin
   .exact(Walks.strWide (prog:=X.prog) (w:=X.w) (I.ok.hd hc) it z t).item i s _ _ hg st fin
  have hz:strIterType z="str_ascii_iterator"\/strIterType z="str_iterator":=by unfold strIterType;split<;>simp
  exact go _ hz rfl
 done:=by
  intro X hP hw hK hc i Y s U H E I hf st hg;subst hP hw hK;obtain⟨f0,f1,f2,f3,f4,f5⟩:=hf it (by simp);have hx:z.cps[i]? =none:=Array.getElem?_eq_none hg;have fin:∀ h',Heap.ExtBut it s.heap h'->(none:Option Value)=none/\Inv X Y U H { s with heap:=h' }:=λh' eb=>⟨rfl,I.turned (t':=s.toks) (λb o hb e=>eb b o hb e) f0 f1 f3 f4 f5⟩
  unfold strIterType at st
  split at st
  .exact wpAny_pyNext_ascii_end (I.ok.hd hc) st hx fin
  .exact wpAny_pyNext_wide_end (I.ok.hd hc) st hx fin
 self:=λ_ _ _ _ _ st h=>by
  unfold strIterType at st
  split at st
  .exact wpAny_pyIter_striter_ascii st h
  .exact wpAny_pyIter_striter_wide st h
def uJ {X:Cx}{tg:Expr}{Y:GD}{U:L2.St}{H1:Hp}{s1:Shared}{R:It->Hp->Prop}{z:Str}{v:Value}(I1:Inv X Y U H1 s1)(r:RelV (.str z) v)(q:R (B9 z) H1):
  wpAny (model X.prog X.w) X.A (pyIter v) (Ec X Y U tg R) X.xe s1:=by
 obtain⟨t,rfl⟩:=r;refine wpAny_pyIter_strU ?_;refine⟨s1.heap.objs.size,[s1.heap.objs.size],_,_,H1,rfl,I1.kept (t':=s1.toks) λb o e=>sK _ e,uG _ z t,⟨_,ul _ rfl,rfl,rfl⟩,λb hb=>?_,q⟩;have e:b=s1.heap.objs.size:=by simpa using hb
 subst e;exact I1.nQ (pi _) (I1.hok.fresh (pi _))
def Inv.fZ {X:Cx}{Y:GD}{U:L2.St}{H:Hp}{s:Shared}{d:Addr}{kvs:List (Key×V)}(I:Inv X Y U H s)(e:H d=some (.dK kvs)):∃ o,Inv X Y U (upd H d (.fZ o (.dK kvs))) s:=by
 obtain⟨_,_,vs,rel,o,es,ep,ho,r⟩:=id (show ak X.prog X.w H s.heap d (.dK kvs) from I.hok d _ e);have ne:∀ b u,H b=some u->u≠.dK kvs->b≠d:=λb u hb hn z=>by subst z;rw[e]at hb;cases hb;exact hn rfl
 refine⟨o,I.step (h':=s.heap) (t':=s.toks) (g':=s.gens) (d':=s.drawn) (ch:=[]) (λ_ z=>nomatch z) (λb o _ _ _ e _=>e) (λb o _ _ _ e _=>⟨o.slots,e⟩) (λb o _ _ n=>by rw[af (λz=>by subst z;rw[e]at n;cases n)];exact n) (λb o _ e=>⟨o,e⟩)
  (λb xs h=>by rw[af (ne b _ h (λz=>by cases z))];exact h) (λb o u h=>by rw[af (ne b _ h (λz=>by subst z;exact False.elim u))];exact h) (λb ps h=>⟨#[],by rw[af (ne b _ h (λz=>by cases z)),h];simp⟩) (λm hm=>hm) (λb u hb=>?_) I.bare⟩
 have c9:∀ b u,H b=some u->ak X.prog X.w (upd H d (.fZ o (.dK kvs))) s.heap b u:=λb u hb=>(I.hok b u hb).c9 (λ_ _ _ e=>e) (λc hc=>by rw[af (ne c _ hc (λz=>by cases z))];exact hc) (λc xs hc=>by rw[af (ne c _ hc (λz=>by cases z))];exact hc)
 by_cases z:b=d
 .subst z;rw[aj]at hb;cases hb;exact⟨ho,c9 _ _ e⟩
 .rw[af z]at hb;exact c9 b u hb
section
variable {X:Cx}
end
end L2
namespace L2
open PySem PySem.Spec PySem.W PyProof.Rows SeqAt
open AutoSeq1 (wpAny_loadPart')
open MeetsSeq MeetsSeq2 MeetsSeq3 SeqRoads2
section
variable {prog:Program}{w:World}
end
end L2
namespace L2
open PySem PySem.Spec PySem.W PyProof.Rows PySem.Calls PyProof.V
abbrev FC (D:List (Str×Str)):List (Str×KTD.Dat):=(D.map λp=>(p.1,PyData.str p.2)).map λp=>(p.1,KTD.Dat.flat p.2)
section
variable {X:Cx}{Y:GD}{U:St}{H:Hp}{s:Shared}{a:Addr}{D:List (Str×Str)}{k w:Str}{t:Tok}{A:Around}{E:GC}
def sZ (k:Str):∀ D:List (Str×Str),KTD.datumAt k (FC D)=(D.lookup k).map λz=>KTD.Dat.flat (.str z)
 | []=>rfl
 |(x,y)::D=>by
  have ih:=sZ k D;show(if decide (k=x)=true then some (KTD.Dat.flat (.str y)) else KTD.datumAt k (FC D))=_;rw[lookup_cons]
  by_cases h:k=x
  .subst h;simp
  .rw[show(k ==x)=false by simpa using h,if_neg (by simpa using h),ih]
end
end L2
namespace L2
open PySem PySem.Spec PySem.W PyProof.Rows
section
variable {prog:Program}{w:World}{A:Around}{E:GC}{s:Shared}
def i8:entryFor table "proto.unchain"=some Builtin.«proto.unchain»:=entryFor_of_fast (by kernel_rfl)
def iZ:plainId "proto.unchain"=true:=by decide+kernel
def jf {α:Type}{e a:Addr}{oe oa:Obj}{vs ws:Array Value}{Q:α->Shared->Prop}(hA:A.handled=some (.ref e))(he:s.heap.get? e=some oe)(hd:oe.data=.fields vs)(h2:vs[2]? =some .none)
  (ha:s.heap.get? a=some oa) (hda:oa.data=.fields ws) (hw:2<ws.size) (ne:e≠a) (h:E (.ref a) { s with heap:=s.heap.update a (Obj.mapFields (·.setIfInBounds 2 (.ref e))) }):wpAny (model prog w) A (raiseNew (.ref a):Sem α) Q E s:=by
 unfold raiseNew;refine ad (wpAny_handled ?_);rw[hA];dsimp only;have n:(Value.ref e != Value.ref a)=true:=by simp[ne]
 rw[if_pos n];refine ad (bd (wpAny_runValue (codeAny_builtin i8 ?_)));rw[Around.under_plainId iZ _];unfold Builtin.«proto.unchain»;dsimp only;refine ad (ap he hd h2 ?_);rw[if_pos (by decide)];refine am ?_;unfold updateField;refine ad (ad (wpAny_load ha ?_));rw[hda];dsimp only;rw[if_pos hw];exact wpAny_update ha (wpAny_throw h)
def pf {it t e:Addr}{i:Nat}{items vs:Array Value}{oe:Obj}{Q:GA}(hA:A.handled=some (.ref e))(he:s.heap.get? e=some oe)(hde:oe.data=.fields vs)(h2:vs[2]? =some .none)(hne:e≠it)
  (hit:s.heap.IsTupleIter it t i) (ht:s.heap.IsTuple t items) (hx:items[i]? =none)
  (hQ:∀ h',Heap.ExtBut it s.heap h'->Q none { s with heap:=h' }):wpAny (model prog w) A (pyNext (.ref it)) Q E s:=by
 obtain⟨o,ho,hc,hd⟩:=id hit;obtain⟨ol,hol,_,nl,hdl⟩:=ht;unfold pyNext;refine ad (wpAny_attempt (wpAny_callSpecial?_slot (name:=Str.ofString "__next__") hit.typeIs F.slot_tuple_iterator_next
  (wpAny_call_entry F.slot_tuple_iterator_next hit.typeIs F.entry_tuple_iterator_next ?_ (F.args_tuple_iterator_next_1 _))))
 show wpAny _ _ (field (.ref it) 0 >>= _) _ _ s;refine ad (ap ho hd (x:=.ref t) rfl ?_);show wpAny _ _ (if(Value.ref t ==Value.none)=true then _ else _) _ _ s;rw[if_neg (show ¬ ((Value.ref t ==Value.none)=true) from Bool.false_ne_true)];show wpAny _ _ (field (.ref it) 1 >>= _) _ _ s;refine ad (ap ho hd (x:=.int i 0) rfl ?_);show wpAny _ _ (seqItems? (.ref t) >>= _) _ _ s;refine ad (wpAny_seqItems hol hdl ?_);simp only[re,hx];refine ad (wpAny_rule (ad (wpAny_setField ho hd (by simp) ?_)));show wpAny _ _ (newExc (.type "StopIteration") [] >>= _) _ _ _;refine ad ?_;simp only[newExc,newTuple];refine ad (wpAny_newObj_type ?_ (by size_fits));refine ad (m:=firstArgMember _ _) (wpAny_of_eq (a:=Value.none) (by first|rfl|(simp only[firstArgMember];rfl)) ?_);refine wpAny_newObj_type ?_ (by size_fits);have hlt:e<(s.heap.update it (Obj.mapFields (·.setIfInBounds 0 Value.none))).objs.size:=by rw[Heap.size_after_update];exact tz he
 have he1:=(Heap.get?_update_other s.heap (Obj.mapFields (·.setIfInBounds 0 Value.none)) (Ne.symm hne)).trans he;refine jf (A:=A.in1) hA (sK _ (sK _ he1)) hde h2 (ul _ rfl) rfl (by rw[Array.size_append];exact nb (show 2<6 by decide) (Nat.le_add_right ..)) (pc (nb hlt (by rw[Heap.size_push];exact Nat.le_succ _))) ?_;have big:∀ b ob,s.heap.get? b=some ob->b<(s.heap.update it (Obj.mapFields (·.setIfInBounds 0 Value.none))).objs.size:=λb ob q=>by rw[Heap.size_after_update];exact tz q
 refine ad (wpAny_isInstance (T:="StopIteration") (b:=true) ⟨_,Heap.get?_update_self _ (ul _ rfl) (Obj.isFreed_of_fields (Obj.data_mapFields rfl _)),(Obj.cls_mapFields ..).trans rfl⟩ isSubtype_stop ?_);refine am (hQ _ λb ob hb q=>?_);refine(Heap.get?_update_other _ _ (Ne.symm (pc (nb (big b ob q) (by rw[Heap.size_push];exact Nat.le_succ _))))).trans (sK _ (sK _ ?_));exact(Heap.get?_update_other s.heap _ (Ne.symm hb)).trans q
end
def lT {P:Program}{w:World}{K:W.Frag}{tg:Expr}(a it:Addr):Turn P w K eh tg (sG K a) [it] it (λi h=>h.IsTupleIter it a i) where
 mem:=(bW (P:=P) (w:=w) (K:=K) (tg:=tg) a it).mem
 obj:=(bW (P:=P) (w:=w) (K:=K) (tg:=tg) a it).obj
 keep:=(bW (P:=P) (w:=w) (K:=K) (tg:=tg) a it).keep
 item:=by
  intro X hP hw hK hc i Y s U H E I hf st hg;subst hP hw hK;obtain⟨xs,x,hq,hx⟩:=hg;obtain⟨its,rv,p,hz⟩:=I.tuple hq;obtain⟨u,hu,ru⟩:=rv.get hx;obtain⟨f0,f1,f2,f3,f4,f5⟩:=hf it (by simp);refine wpAny_pyNext_tuple_item st (show s.heap.IsTuple a its.toArray from p) (x:=u) (by simpa using hu) λh' st' sb=>?_
  have I1:Inv X Y U H { s with heap:=h' }:=I.turned (t':=s.toks) (λb o hb e=>(sb.2 b hb).trans e) f0 f1 f3 f4 f5;obtain⟨o,e,c,d⟩:=id st';exact⟨u,rfl,mL (s:={ s with heap:=h' }) e c d (by decide) ⟨x,H,I1,ru,⟨rfl,λys hy=>by rw[I.dQ hy hq];exact hx⟩,st',λb hb=>(hf b hb).1⟩⟩
 done:=by
  intro X hP hw hK hc i Y s U H E I hf st hg;subst hP hw hK;obtain⟨xs,hq,hx⟩:=hg;obtain⟨its,rv,p,hz⟩:=I.tuple hq;obtain⟨f0,f1,f2,f3,f4,f5⟩:=hf it (by simp);obtain⟨e,C,dx,fs,hA,he⟩:=hc;have he':=I.base.frzs e (.exc C dx fs false) rfl he;obtain⟨⟨vs,ho,hsz,_,h2⟩,_⟩:=id (I.hok e _ he');have hl:=rv.length;exact pf hA ho rfl h2 (λz=>by rw[z,f0]at he';cases he') st (show s.heap.IsTuple a its.toArray from p) (by simp;omega) λh' eb=>⟨rfl,I.turned (t':=s.toks) (λb o hb e=>eb b o hb e) f0 f1 f3 f4 f5⟩
 self:=(bW (P:=P) (w:=w) (K:=K) (tg:=tg) a it).self
def eh.now {X:Cx}{Y:GD}{U:St}{H:Hp}{s:Shared}(h:eh X)(I:Inv X Y U H s):∃ e C dx fs,X.A.handled=some (.ref e)/\H e=some (.exc C dx fs false):=by
 obtain⟨e,C,dx,fs,hA,he⟩:=h;exact⟨e,C,dx,fs,hA,I.base.frzs e (.exc C dx fs false) rfl he⟩
end L2
namespace L2
open PySem PySem.Spec PyProof.Rows
inductive eu (K:W.Frag) (H:Hp):Nat->V->V->Bool->Prop where
 |flat {n:Nat}{x y:V}(fx:ay x=true) (fy:ay y=true):eu K H n x y (la x y)
 |same {n:Nat}(a:Addr):eu K H (n+1) (.ref a) (.ref a) true
 |ll {n:Nat}{a b:Addr}{xs ys:List V}{e:Nat->Bool}(ha:aN K H a xs) (hb:aN K H b ys) (hl:xs.length=ys.length) (h:∀ j x y,xs[j]? =some x->ys[j]? =some y->eu K H (n+1) x y (e j)):eu K H (n+2) (.ref a) (.ref b) ((List.range xs.length).all e)
 |tt {n:Nat}{a b:Addr}{xs ys:List V}{e:Nat->Bool}(ha:ba K H a xs) (hb:ba K H b ys) (h:∀ j x y,xs[j]? =some x->ys[j]? =some y->eu K H (n+1) x y (e j)):eu K H (n+2) (.ref a) (.ref b) ((List.range (min xs.length ys.length)).all e&&xs.length ==ys.length)
variable {A:Around}
section
variable {X:Cx}{Y:GD}{s:Shared}{U:St}{H:Hp}
def tI {y x:V}{u v:Value}(ry:RelV y u)(rx:RelV x v)(fy:ay y=true)(fx:ay x=true):SeqAt.RcAt A s u v (la y x):=by
 cases y<;>first|cases fy|skip
 all_goals (cases x<;>first|cases fx|skip)
 all_goals (first|(obtain⟨t,rfl⟩:=ry)|cases ry)
 all_goals (first|(obtain⟨t',rfl⟩:=rx)|cases rx)
 .exact SeqAt.RcAt.none_none
 .exact SeqAt.RcAt.none_bool _
 .exact SeqAt.RcAt.none_int _ _
 .exact SeqAt.RcAt.none_str _ _
 .exact SeqAt.RcAt.bool_none _
 .exact SeqAt.RcAt.bool_bool _ _
 .exact SeqAt.RcAt.bool_int _ _ _
 .exact SeqAt.RcAt.bool_str _ _ _
 .exact SeqAt.RcAt.int_none _ _
 .exact SeqAt.RcAt.int_bool _ _ _
 .exact SeqAt.RcAt.int_int _ _ _ _
 .exact SeqAt.RcAt.int_str _ _ _ _
 .exact SeqAt.RcAt.str_none _ _
 .exact SeqAt.RcAt.str_bool _ _ _
 .exact SeqAt.RcAt.str_int _ _ _ _
 .exact SeqAt.RcAt.str_str _ _ _ _
def lY {y x:V}{u v:Value}(ry:RelV y u)(rx:RelV x v)(fy:ay y=true)(fx:ay x=true):SeqAt.RcNeAt A s u v (!la y x):=by
 cases y<;>first|cases fy|skip
 all_goals (cases x<;>first|cases fx|skip)
 all_goals (first|(obtain⟨t,rfl⟩:=ry)|cases ry)
 all_goals (first|(obtain⟨t',rfl⟩:=rx)|cases rx)
 .exact SeqAt.RcNeAt.none_none
 .exact SeqAt.RcNeAt.none_bool _
 .exact SeqAt.RcNeAt.none_int _ _
 .exact SeqAt.RcNeAt.none_str _ _
 .exact SeqAt.RcNeAt.bool_none _
 .exact SeqAt.RcNeAt.bool_bool _ _
 .exact SeqAt.RcNeAt.bool_int _ _ _
 .exact SeqAt.RcNeAt.bool_str _ _ _
 .exact SeqAt.RcNeAt.int_none _ _
 .exact SeqAt.RcNeAt.int_bool _ _ _
 .exact SeqAt.RcNeAt.int_int _ _ _ _
 .exact SeqAt.RcNeAt.int_str _ _ _ _
 .exact SeqAt.RcNeAt.str_none _ _
 .exact SeqAt.RcNeAt.str_bool _ _ _
 .exact SeqAt.RcNeAt.str_int _ _ _ _
 .exact SeqAt.RcNeAt.str_str _ _ _ _
def eqv_refl (I:Inv X Y U H s):∀ {n:Nat}{x y:V}{b:Bool},eu X.K H n x y b->x=y->b=true:=by
 intro n x y b h
 induction h with
 | @flat n x y fx fy=>
  rintro rfl;cases x<;>first|(exact absurd fx Bool.false_ne_true)|simp[la]
 |same a=>intro _;rfl
 | @ll n a b xs ys e ha hb hl h ih=>
  intro z;cases z;have:=I.ip ha hb;subst this;rw[all_eq_true];intro j hj;have hj':j<xs.length:=mem_range.mp hj;exact ih j _ _ (le hj') (le hj') rfl
 | @tt n a b xs ys e ha hb h ih=>
  intro z;cases z;have:=I.dQ ha hb;subst this;rw[beq_self_eq_true,Bool.and_true,Nat.min_self,all_eq_true];intro j hj;have hj':j<xs.length:=mem_range.mp hj;exact ih j _ _ (le hj') (le hj') rfl
def lO (I:Inv X Y U H s):∀ {n:Nat}{x y:V}{b:Bool},eu X.K H n x y b->∀ {A:Around}{u v:Value},A.units+n<cLine->RelV x u->RelV y v->
  (SeqAt.EqAt A s u v b)/\(x=y\/SeqAt.RcAt A s u v b/\SeqAt.RcNeAt A s u v (!b)):=by
 intro n x y b h
 induction h with
 |flat fx fy=>intro A u v _ rx ry;exact⟨ui rx ry fx fy,.inr ⟨tI rx ry fx fy,lY rx ry fx fy⟩⟩
 |same a=>intro A u v _ rx ry;cases rx;cases ry;exact⟨SeqAt.EqAt.same _,.inl rfl⟩
 | @ll n a b xs ys e ha hb hl h ih=>
  intro A u v hu rx ry;have hall:=eu.ll ha hb hl h;cases rx;cases ry
  by_cases hab:a=b
  .subst hab;have z:=eqv_refl I hall rfl;rw[z];exact⟨SeqAt.EqAt.same _,.inl rfl⟩
  obtain⟨ia,ra,pa,_⟩:=I.list ha;obtain⟨ib,rb,pb,_⟩:=I.list hb;have e1:ia.toArray.size=xs.length:=by rw[ge,ra.length]
  have e2:ib.toArray.size=ys.length:=by rw[ge,rb.length]
  have he:∀ j (h1:j<ia.toArray.size) (h2:j<ib.toArray.size),SeqAt.EqAt A.in1 s ia.toArray[j] ib.toArray[j] (e j):=λj h1 h2=>by
   obtain⟨x1,f1,r1⟩:=gT ra h1;obtain⟨y1,f2,r2⟩:=gT rb h2;exact(ih j x1 y1 f1 f2 (by show A.units+1+(n+1)<cLine;omega) r1 r2).1
  have rc:=SeqAt.RcAt.lists (A:=A) pa.isList pb.isList (by rw[e1,e2,hl]) nofun he;have rn:=SeqAt.RcNeAt.lists (A:=A) pa.isList pb.isList (by rw[e1,e2,hl]) nofun he;rw[e1]at rc rn;exact⟨SeqAt.EqAt.of_refs hab rc,.inr ⟨rc,rn⟩⟩
 | @tt n a b xs ys e ha hb h ih=>
  intro A u v hu rx ry;have hall:=eu.tt ha hb h;cases rx;cases ry
  by_cases hab:a=b
  .subst hab;have z:=eqv_refl I hall rfl;rw[z];exact⟨SeqAt.EqAt.same _,.inl rfl⟩
  obtain⟨ia,ra,pa,_⟩:=I.tuple ha;obtain⟨ib,rb,pb,_⟩:=I.tuple hb;have e1:ia.toArray.size=xs.length:=by rw[ge,ra.length]
  have e2:ib.toArray.size=ys.length:=by rw[ge,rb.length]
  have he:∀ j (h1:j<ia.toArray.size) (h2:j<ib.toArray.size),SeqAt.EqAt A.in1 s ia.toArray[j] ib.toArray[j] (e j):=λj h1 h2=>by
   obtain⟨x1,f1,r1⟩:=gT ra h1;obtain⟨y1,f2,r2⟩:=gT rb h2;exact(ih j x1 y1 f1 f2 (by show A.units+1+(n+1)<cLine;omega) r1 r2).1
  have rc:=SeqAt.RcAt.tuples (A:=A) (show s.heap.IsTuple a ia.toArray from pa) (show s.heap.IsTuple b ib.toArray from pb) nofun he;have rn:=SeqAt.RcNeAt.tuples (A:=A) (show s.heap.IsTuple a ia.toArray from pa) (show s.heap.IsTuple b ib.toArray from pb) nofun he;rw[e1,e2]at rc rn;exact⟨SeqAt.EqAt.of_refs hab rc,.inr ⟨rc,rn⟩⟩
@[irreducible] noncomputable def cy (K:W.Frag) (neg:Bool):R2:=λx y H Q=>False\/∃ n b,eu K H n x y b/\n<=100/\(ay x=true\/x≠y\/(neg=false/\∃ a,x=.ref a/\nq K H a)\/(neg=true/\∃ a,x=.ref a/\nB K H a))/\Q (.bl (if neg then !b else b)) H
def Ao (hu:X.A.units+200<cLine):bY X (compareOp .Eq) (cy X.K false):=by
 intro Y s U H x y v u Q I rx ry h;unfold cy at h;rcases h with z|⟨n,b,e,hn,hx,q⟩
 .exact z.elim
 rcases(lO I e (A:=X.A) nofun rx ry).2 with z|⟨z,_⟩
 .subst z;rcases hx with hx|hx
  .have z:=eqv_refl I e rfl;have r:=tI (s:=s) (A:=X.A) rx ry hx hx;have z2:=eqv_refl I (eu.flat (K:=X.K) (H:=H) (n:=0) hx hx) rfl;rw[z2]at r;rw[z]at q;exact PySem.EqBoolInt.of_rc r ⟨.bl true,H,I,rfl,q⟩
  rcases hx with hx|⟨_,a,rfl,hs⟩|⟨hx,_⟩
  .exact absurd rfl hx
  .have z:=eqv_refl I e rfl;rw[z]at q;cases rx;cases ry;exact PySem.EqBoolInt.of_rc (w6 (A:=X.A) I hs nofun) ⟨.bl true,H,I,rfl,q⟩
  .cases hx
 .exact PySem.EqBoolInt.of_rc z ⟨.bl b,H,I,rfl,q⟩
def A0 (hu:X.A.units+200<cLine):bY X (compareOp .NotEq) (cy X.K true):=by
 intro Y s U H x y v u Q I rx ry h;unfold cy at h;rcases h with z|⟨n,b,e,hn,hx,q⟩
 .exact z.elim
 rcases(lO I e (A:=X.A) nofun rx ry).2 with z|⟨_,z⟩
 .subst z;rcases hx with hx|hx
  .have z:=eqv_refl I e rfl;have r:=lY (s:=s) (A:=X.A) rx ry hx hx;have z2:=eqv_refl I (eu.flat (K:=X.K) (H:=H) (n:=0) hx hx) rfl;rw[z2]at r;rw[z]at q;exact PySem.EqBoolInt.of_rcne r ⟨.bl false,H,I,rfl,q⟩
  rcases hx with hx|⟨hx,_⟩|⟨_,a,rfl,hs⟩
  .exact absurd rfl hx
  .cases hx
  .have z:=eqv_refl I e rfl;rw[z]at q;cases rx;cases ry;exact PySem.EqBoolInt.of_rcne (xg (A:=X.A) I hs nofun) ⟨.bl false,H,I,rfl,q⟩
 .exact PySem.EqBoolInt.of_rcne z ⟨.bl (!b),H,I,rfl,q⟩
end
@[irreducible] noncomputable def wM (K:W.Frag) (a b:Addr) (H:Hp) (Q:VK):Prop:=(∃ xs ys,H a=some (.lst xs)/\H b=some (.lst ys)/\xs.length+ys.length<=100000/\∀ p,H p=none->Q (.ref p) (upd H p (.lst (xs++ys))))\/False
@[irreducible] noncomputable def wo (K:W.Frag) (a:Addr) (k:Int) (H:Hp) (Q:VK):Prop:=(∃ xs,H a=some (.lst xs)/\ -1000<=k/\k<=1000/\xs.length<=1000/\∀ p,H p=none->Q (.ref p) (upd H p (.lst (ss k.toNat xs).flatten)))\/False
abbrev AQ (K:W.Frag):R2:=λx y H Q=>match x,y with
 | .int i,.int j=>Q (.int (i+j)) H
 | .str a,.str b=>a.length+b.length<=100000/\Q (.str (a++b)) H
 | .ref a,.ref b=>wM K a b H Q
 |_,_=>False
abbrev BV:R2:=λx y H Q=>match x,y with
 | .int i,.int j=>Q (.int (i-j)) H
 |_,_=>False
abbrev zT (K:W.Frag):R2:=λx y H Q=>match x,y with
 | .int i,.int j=>qR i j/\Q (.int (i*j)) H
 | .ref a,.int k=>wo K a k H Q
 |_,_=>False
abbrev Aq:R2:=λx y H Q=>match x,y with
 | .int i,.int j=>(0<j/\j<1073741824)/\Q (.int (i / j)) H
 |_,_=>False
abbrev AS:R2:=λx y H Q=>match x,y with
 | .int i,.int j=>0<j/\Q (.int (i % j)) H
 |_,_=>False
abbrev zX:R2:=λx y H Q=>match x,y with
 | .int i,.int j=>wz i j/\Q (.int (i ^ j.toNat)) H
 |_,_=>False
abbrev AG (K:W.Frag)(op:Operator):R2:=match op with
 | .Add=>AQ K
 | .Sub=>BV
 | .Mult=>zT K
 | .FloorDiv=>Aq
 | .Mod=>AS
 | .Pow=>zX
 |_=>λ_ _ _ _=>False
section
variable {X:Cx}
def hV {n:Nat}(h:n<=1000000):n<=bn:=by rw[sizeLine_eq];omega
def B3 (op:Operator):bY X (binaryOp op) (AG X.K op):=by
 intro Y s U H x y v u Q I rx ry h;cases op with
 |Add=>
  have h':AQ X.K x y H Q:=h;unfold AQ at h'
  split at h'
  .exact Aa Y s U H _ _ v u Q I rx ry ⟨_,_,rfl,rfl,h'⟩
  .exact o7 Y s U H _ _ v u Q I rx ry ⟨_,_,rfl,rfl,hV nofun,h'.2⟩
  .unfold wM at h';rcases h' with⟨xs,ys,ha,hb,hz,q⟩|h'
   .exact Bg Y s U H _ _ v u Q I rx ry ⟨_,_,xs,ys,rfl,rfl,ha,hb,hV nofun,q⟩
   .exact h'.elim
  .exact h'.elim
 |Sub=>
  have h':BV x y H Q:=h;unfold BV at h'
  split at h'
  .exact Bl Y s U H _ _ v u Q I rx ry ⟨_,_,rfl,rfl,h'⟩
  .exact h'.elim
 |Mult=>
  have h':zT X.K x y H Q:=h;unfold zT at h'
  split at h'
  .exact Bd Y s U H _ _ v u Q I rx ry ⟨_,_,rfl,rfl,h'.1,h'.2⟩
  .rename_i k;unfold wo at h';rcases h' with⟨xs,ha,h1,h2,hz,q⟩|h'
   .refine A3 Y s U H _ _ v u Q I rx ry ⟨_,k,xs,rfl,rfl,ha,by omega,by omega,hV ?_,q⟩;have:xs.length*k.toNat<=1000*1000:=Nat.mul_le_mul hz nofun
    omega
   .exact h'.elim
  .exact h'.elim
 |FloorDiv=>
  have h':Aq x y H Q:=h;unfold Aq at h'
  split at h'
  .exact yJ Y s U H _ _ v u Q I rx ry ⟨_,_,rfl,rfl,h'.1,h'.2⟩
  .exact h'.elim
 |Mod=>
  have h':AS x y H Q:=h;unfold AS at h'
  split at h'
  .exact BI Y s U H _ _ v u Q I rx ry ⟨_,_,rfl,rfl,h'.1,h'.2⟩
  .exact h'.elim
 |Pow=>
  have h':zX x y H Q:=h;unfold zX at h'
  split at h'
  .exact Bq Y s U H _ _ v u Q I rx ry ⟨_,_,rfl,rfl,h'.1,h'.2⟩
  .exact h'.elim
 |_=>exact(show False from h).elim
abbrev rO (f:Int->Int->Bool):R2:=λx y H Q=>match x,y with
 | .int i,.int j=>Q (.bl (f i j)) H
 |_,_=>False
@[irreducible] noncomputable def CP (K:W.Frag) (neg:Bool):R2:=λx y H Q=>match y with
 | .ref p=>(∃ xs,(aN K H p xs\/ba K H p xs)/\ay x=true/\xs.all ay=true/\Q (.bl (if neg then !Cb x xs else Cb x xs)) H)\/False\/False\/False
 | .str j=>False
 |_=>False
@[irreducible] noncomputable def vS (neg:Bool):R2:=λx y H Q=>match y with
 | .non=>Q (.bl (if neg then !decide (x=.non) else decide (x=.non))) H
 | .bl b=>False
 | .ref b=>False
 |_=>False
abbrev iL (K:W.Frag)(op:CmpOp):R2:=match op with
 | .Eq=>cy K false
 | .NotEq=>cy K true
 | .Lt=>rO λi j=>decide (i<j)
 | .LtE=>rO λi j=>decide (i<=j)
 | .Gt=>rO λi j=>decide (j<i)
 | .GtE=>rO λi j=>decide (j<=i)
 | .In=>CP K false
 | .NotIn=>λ_ _ _ _=>False
 | .Is=>vS false
 | .IsNot=>vS true
def jV {f:Int->Int->Bool}{op:CmpOp}(ho:bY X (compareOp op) (wQ λi j=>.bl (f i j))):bY X (compareOp op) (rO f):=by
 intro Y s U H x y v u Q I rx ry h;unfold rO at h
 split at h
 .exact ho Y s U H _ _ v u Q I rx ry ⟨_,_,rfl,rfl,h⟩
 .exact h.elim
def Br (hu:X.A.units+200<cLine)(op:CmpOp):bY X (compareOp op) (iL X.K op):=by
 cases op with
 |Eq=>exact Ao hu
 |NotEq=>exact A0 hu
 |Lt=>exact jV Ci
 |LtE=>exact jV C2
 |Gt=>exact jV Dr
 |GtE=>exact jV CS
 |In=>
  intro Y s U H x y v u Q I rx ry h;have h':CP X.K false x y H Q:=h;unfold CP at h'
  split at h'
  .rcases h' with⟨xs,hx,f1,f2,q⟩|g|y|z
   .exact qZ Y s U H _ _ v u Q I rx ry ⟨_,xs,rfl,hx,f1,f2,q⟩
   .exact g.elim
   .exact y.elim
   .exact z.elim
  .exact h'.elim
  .exact h'.elim
 |NotIn=>exact λ_ _ _ _ _ _ _ _ _ _ _ _ h=>(show False from h).elim
 |Is=>
  intro Y s U H x y v u Q I rx ry h;have h':vS false x y H Q:=h;unfold vS at h'
  split at h'
  .exact BD Y s U H _ _ v u Q I rx ry ⟨rfl,h'⟩
  .exact h'.elim
  .exact h'.elim
  .exact h'.elim
 |IsNot=>
  intro Y s U H x y v u Q I rx ry h;have h':vS true x y H Q:=h;unfold vS at h'
  split at h'
  .exact wD Y s U H _ _ v u Q I rx ry ⟨rfl,h'⟩
  .exact h'.elim
  .exact h'.elim
  .exact h'.elim
@[irreducible] noncomputable def nh (K:W.Frag):R2:=λx y H Q=>match x with
 | .ref p=>(∃ xs i v,y=.int i/\(aN K H p xs\/ba K H p xs)/\jc xs i=some v/\Q v H)\/(∃ v,As H p y (some v)/\Q v H)\/False
 | .str z=>False
 |_=>False
def nU (hu:X.A.units+200<cLine):C5 X (nh X.K):=by
 intro value slice Y s U H x y v u Q I rx ry h hs;unfold nh at h
 split at h
 .rcases h with⟨xs,i,w,rfl,hx,ha,q⟩|⟨w,g,q⟩|z
  .rcases hx with hx|hx
   .exact yD value slice Y s U H _ _ v u Q I rx ry ⟨_,xs,i,w,rfl,rfl,hx,ha,q⟩ hs
   .exact AF value slice Y s U H _ _ v u Q I rx ry ⟨_,xs,i,w,rfl,rfl,hx,ha,q⟩ hs
  .cases rx;exact tail_any (l8 I g) PySem.F.slot_dict_getitem.lookup (rS nofun I g ry λw' s3 I3 rw'=>⟨w,H,I3,rw',q⟩) hs
  .exact z.elim
 .exact h.elim
 .exact h.elim
@[irreducible] noncomputable def qL:qK:=λo i v H Q=>match o with
 | .ref p=>(∃ xs k j,i=.int k/\H p=some (.lst xs)/\sF xs.length k=some j/\Q (upd H p (.lst (xs.set j v))))\/∃ H4,DS H p i v H4/\Q H4
 |_=>False
def pB (hu:X.A.units+200<cLine):yq X qL:=by
 intro Y s U H o i v ov iv u Q I ro ri rv h;unfold qL at h
 split at h
 .rcases h with⟨xs,k,j,rfl,hp,hj,q⟩|⟨H4,g,q⟩
  .exact set_list Y s U H _ _ v ov iv u Q I ro ri rv ⟨_,xs,k,j,rfl,rfl,hp,hj,q⟩
  .cases ro;exact qJ nofun I g ri rv λs4 I4=>⟨H4,I4,q⟩
 .exact h.elim
@[irreducible] noncomputable def y9 (K:W.Frag):V->Option Int->Option Int->Hp->VK->Prop:=λx lo hi H Q=>match x with
 | .ref a=>(∃ xs,aN K H a xs/\∀ p,H p=none->Q (.ref p) (upd H p (.lst (f6 xs lo hi))))\/False
 | .str z=>False
 |_=>False
def BY:Ee X (y9 X.K):=by
 intro Y s U H x v vl vu lo hi sl Q I rx hs pl pu h;unfold y9 at h
 split at h
 .rcases h with⟨xs,hx,q⟩|h
  .exact wN Y s U H _ v vl vu lo hi sl Q I rx hs pl pu ⟨_,xs,rfl,hx,q⟩
  .exact h.elim
 .exact h.elim
 .exact h.elim
end
end L2
namespace L3
open PySem L2
set_option genSizeOf false
inductive Bf where
 |len|list|tuple|int|str|min|max|abs|all|any|dict|sum
 deriving DecidableEq
inductive Lm where
 |append|extend|insert|pop|clear|reverse|count
 deriving DecidableEq
inductive Sm where
 |join|split|starts
 deriving DecidableEq
inductive Cl where
 |own (c:Nat)|ty (n:String)
mutual
inductive Ex where
 |v (i:Nat)|int (i:Int)|bl (b:Bool)|non|str (x:Str)|gl (x:Str)
 |bin (op:Operator) (a b:Ex)|neg (a:Ex)|not (a:Ex)|and (a b:Ex)|or (a b:Ex)
 |cmp (op:CmpOp) (a b:Ex)|cmp2 (o1 o2:CmpOp) (a b c:Ex)|cmp3 (o1 o2 o3:CmpOp) (a b c d:Ex)
 |ife (c:Tx) (a b:Ex)|tup (es:eI)|lst (es:eI)|ix (a i:Ex)|sl (a:Ex) (lo hi:El)
 |fld (a:Ex) (f:Str)|call (f:Nat) (es:eI)|meth (a:Ex) (m:Str) (es:eI)|lm (m:Lm) (a:Ex) (es:eI)|make (c:Nat) (es:eI)|bini (es:eI)|cini (c:Nat) (es:eI)
 |bf (b:Bf) (es:eI)|sm (m:Sm) (a b:Ex)|isi (a:Ex) (c:Cl)|lc (elt:Ex) (sel:List Nat) (it:xI)|lci (elt:Ex) (c:Tx) (sel:List Nat) (it:xI)|lct (elt:Ex) (n:Nat) (sel:List Nat) (it:xI)|lcu (elt:Ex) (c:Tx) (n:Nat) (sel:List Nat) (it:xI)|dnew|up (a:Ex)|dzip (a b:Ex)|isiT (a:Ex) (cs:List Nat)|vals (tp:Bool) (a:Ex)|mk0 (c:Nat)|disp (ks:List Str) (es:eI)|lix (a b:Ex)|rev (a b:Ex)|dget (a k d:Ex)|dupd (a b:Ex)
inductive Tx where
 |not (a:Tx)|and (a b:Tx)|or (a b:Tx)|cmp (op:CmpOp) (a b:Ex)|cmp2 (o1 o2:CmpOp) (a b c:Ex)|val (e:Ex)
inductive eI where
 |nil|cons (e:Ex) (es:eI)
inductive El where
 |no|yes (e:Ex)
inductive xI where
 |rng1 (a:Ex)|rng2 (a b:Ex)|rng3 (a b c:Ex)|enm (a:Ex)|enf (a:Ex)|seq (a:Ex)|zip (a b:Ex)|zip3 (a b c:Ex)
end
inductive D7 where
 |nm (i:Nat)|tp (is:List Nat)|nt (i:Nat) (is:List Nat)
mutual
inductive Sx where
 |asg (i:Nat) (e:Ex)|asgT (is:List Nat) (e:Ex)|par (is:List Nat) (es:eI)|sub (o i v:Ex)|fld (o:Ex) (f:Str) (v:Ex)
 |aug (i:Nat) (op:Operator) (e:Ex)|augS (o i:Ex) (op:Operator) (e:Ex)|augF (o:Ex) (f:Str) (op:Operator) (e:Ex)
 |ret (e:Ex)|retN|pass|brk|cont|expr (e:Ex)
 |ife (c:Tx) (a b:je)|whl (c:Tx) (b:je)|for (t:D7) (it:xI) (b:je)|rais (e:Ex)|tryx (b:je) (hs:vT)
inductive je where
 |nil|cons (s:Sx) (r:je)
inductive vT where
 |nil|cons (c:Nat) (i:Nat) (b:je) (hs:vT)
end
structure aw where
 ps:List Str
 N:List Str
 dfl:List V
 body:je
/-- what of the text never changes. gfn,gcl:the global names of defs and classes,by number;gbl:built-in names that are not shadowed;gbi:classes of exceptions whose __init__ is the built-in one;na:class and name that no class of it has;
  me:class,name,def;ini:class,its __init__;oc,xc:plain classes,classes of exceptions;sub,subT:isinstance -/
structure Tab where
 fns:List aw
 gfn:List (Str×Nat)
 gcl:List (Str×Nat)
 gbl:List Str
 gbi:List Str
 na:List (Nat×Str)
 me:List ((Nat×Str)×Nat)
 ini:List (Nat×Nat)
 ini0:List Nat
 inip:List Nat
 oc:List Nat
 xc:List Nat
 sub:List ((Nat×Nat)×Bool)
 subT:List ((Nat×String)×Bool)
 subB:List ((String×String)×Bool)
 subO:List ((String×Nat)×Bool)
 cin:List (Nat×Nat):=[]
structure Rt where
 K:W.Frag
 fad:Nat->Addr
 cad:Nat->Addr
 gl:Str->Option V
inductive Md
 |calm
 |soft
 |aF (e:Addr)
 |mute
abbrev Md.b:Md->Bool
 | .calm=>true
 |_=>false
abbrev D8 (m:Md)(A B:Prop):Prop:=match m with
 | .calm=>m=.calm/\A
 | .soft=>B
 |_=>False
def ud {m:Md}{A B:Prop}(h:D8 m A B):(m=.calm/\A)\/(m=.soft/\B):=by
 cases m with
 |calm=>exact .inl h
 |soft=>exact .inr ⟨rfl,h⟩
 |aF e=>exact h.elim
 |mute=>exact h.elim
structure Gx where
 T:Tab
 R:Rt
 Ψ:Nat->Sp
 cm:Md
abbrev Gx.yx (G:Gx)(f:Nat):Sp:=match G.cm with
 | .calm=>G.Ψ f
 | .soft=>G.Ψ f
 | .aF e=>λvs H Q E=>(∃ C dx fs,H e=some (.exc C dx fs false))/\G.Ψ (f+G.T.fns.length) vs H Q E
 | .mute=>λ_ _ _ _=>False
@[irreducible] noncomputable def fP (c:Bool) (A B:Prop):Prop:=match c with
 |true=>A
 |false=>B
def cq (c:Bool)(A B:Prop):fP c A B=(if c=true then A else B):=by unfold fP;cases c<;>rfl
abbrev Be (K:W.Frag)(x:V)(H:Hp)(Q:Bool->Hp->Prop):Prop:=match x with
 | .bl k=>Q k H
 |y=>∃ k,xa K y H k/\Q k H
abbrev tyName:V->Hp->Option String
 | .non,_=>some "NoneType"
 | .bl _,_=>some "bool"
 | .int _,_=>some "int"
 | .str _,_=>some "str"
 | .ref a,H=>match H a with
  |some (.lst _)=>some "list"
  |some (.tup _)=>some "tuple"
  |some (.dK _)=>some "dict"
  |some (.fZ _ (.dK _))=>some "dict"
  |_=>none
 |_,_=>none
@[irreducible] noncomputable def o6 (G:Gx) (b:Bf) (vs:List V) (H:Hp) (Q:VK):Prop:=match b with
 | .len=>∃ x n,vs=[x]/\DV G.R.K x H n/\Q (.int n) H
 | .list=>(∃ p ys,vs=[.ref p]/\(aN G.R.K H p ys\/ba G.R.K H p ys)/\∀ l,H l=none->Q (.ref l) (upd H l (.lst ys)))\/(G.cm=.calm/\∃ p kvs,vs=[.ref p]/\Rd H p (.dK kvs)/\∀ l,H l=none->Q (.ref l) (upd H l (.lst (kvs.map (λkv=>kV kv.1)))))
 | .tuple=>∃ p ys,vs=[.ref p]/\((aN G.R.K H p ys/\∀ l,H l=none->Q (.ref l) (upd H l (.tup ys)))\/(ba G.R.K H p ys/\Q (.ref p) H))
 | .int=>((∃ i,vs=[.int i]/\Q (.int i) H)\/∃ k,vs=[.bl k]/\Q (.int (if k then 1 else 0)) H)\/False
 | .str=>(∃ i,vs=[.int i]/\i.natAbs.log2<1920/\Q (.str (toString i)) H)\/∃ z,vs=[.str z]/\Q (.str z) H
 | .min=>G.cm=.calm/\((∃ i j,vs=[.int i,.int j]/\Q (.int (if j<i then j else i)) H)\/∃ p,∃ (ns:List Int) (m:Int),vs=[.ref p]/\aN G.R.K H p (ns.map V.int)/\m ∈ ns/\(∀ a ∈ ns,m<=a)/\Q (.int m) H)
 | .max=>False
 | .abs=>False
 | .all=>False
 | .any=>False
 | .dict=>∃ p kvs,vs=[.ref p]/\H p=some (.dK kvs)/\∀ l,H l=none->Q (.ref l) (upd H l (.dK kvs))
 | .sum=>False
@[irreducible] noncomputable def AU (m:Lm) (p:Addr) (xs:List V) (vs:List V) (H:Hp) (Q:VK):Prop:=match m with
 | .append=>∃ y,vs=[y]/\xs.length<=10000/\Q .non (upd H p (.lst (xs++[y])))
 | .extend=>∃ b zs,vs=[.ref b]/\H b=some (.lst zs)/\xs.length+zs.length<=10000/\Q .non (upd H p (.lst (xs++zs)))
 | .insert=>∃ i y,vs=[.int i,y]/\0<=i/\i<=xs.length/\xs.length<=10000/\Q .non (upd H p (.lst (xs.take i.toNat++y::xs.drop i.toNat)))
 | .pop=>False
 | .clear=>False
 | .reverse=>False
 | .count=>False
abbrev dflt (G:Gx)(f n:Nat):List V:=match G.T.fns[f]? with
 |some d=>d.dfl.drop (n+d.dfl.length-d.ps.length)
 |none=>[]
abbrev eI.len:eI->Nat
 | .nil=>0
 | .cons _ es=>es.len+1
abbrev qy (G:Gx)(H:Hp)(a:Addr)(i:Nat):Prop:=(G.T.oc.contains i=true/\∃ dx fs,H a=some (.ins (G.R.cad i) dx fs))\/(G.T.xc.contains i=true/\∃ dx fs fr,H a=some (.exc (G.R.cad i) dx fs fr))
@[irreducible] noncomputable def cX (G:Gx) (c:Cl) (x:V) (H:Hp) (Q:VK):Prop:=match c with
 | .ty n=>(∃ t b,tyName x H=some t/\G.T.subB.lookup (t,n)=some b/\Q (.bl b) H)\/∃ a i b,x=.ref a/\qy G H a i/\G.T.subT.lookup (i,n)=some b/\Q (.bl b) H
 | .own j=>(∃ t b,tyName x H=some t/\G.T.subO.lookup (t,j)=some b/\Q (.bl b) H)\/∃ a i b,x=.ref a/\qy G H a i/\G.T.sub.lookup (i,j)=some b/\Q (.bl b) H
abbrev anyS (G:Gx)(i:Nat):List Nat->Option Bool
 | []=>some false
 |c::r=>match G.T.sub.lookup (i,c) with
  |some true=>some true
  |some false=>anyS G i r
  |none=>none
abbrev wu (G:Gx)(t:String):List Nat->Option Bool
 | []=>some false
 |c::r=>match G.T.subO.lookup (t,c) with
  |some true=>some true
  |some false=>wu G t r
  |none=>none
@[irreducible] noncomputable def mF (G:Gx) (cs:List Nat) (x:V) (H:Hp) (Q:VK):Prop:=(∃ t b,tyName x H=some t/\wu G t cs=some b/\Q (.bl b) H)\/∃ a i b,x=.ref a/\qy G H a i/\anyS G i cs=some b/\Q (.bl b) H
@[irreducible] noncomputable def oH (G:Gx) (f:Str) (x:V) (H:Hp) (Q:VK):Prop:=∃ a i fs v,x=.ref a/\((G.T.oc.contains i=true/\∃ dx,H a=some (.ins (G.R.cad i) dx fs))\/(G.T.xc.contains i=true/\∃ dx fr,H a=some (.exc (G.R.cad i) (some dx) fs fr)))/\
 G.T.na.contains (i,f)=true/\fs.lookup f=some v/\Q v H
@[irreducible] noncomputable def xb (G:Gx) (f:Str) (x y:V) (H:Hp) (Q:Hp->Prop):Prop:=∃ a i,x=.ref a/\G.T.na.contains (i,f)=true/\
 ((∃ dx fs,G.T.oc.contains i=true/\H a=some (.ins (G.R.cad i) dx fs)/\fs.length<1000/\Q (upd H a (.ins (G.R.cad i) dx (b6 f y fs))))\/
  (∃ d fs,G.T.xc.contains i=true/\H a=some (.exc (G.R.cad i) (some d) fs true)/\fs.length<1000/\Q (upd H a (.exc (G.R.cad i) (some d) (b6 f y fs) true)))\/
  (G.T.xc.contains i=true/\H a=some (.exc (G.R.cad i) none [] true)/\∀ d,H d=none->Q (upd (upd H d (.own a)) a (.exc (G.R.cad i) (some d) [(f,y)] true))))
abbrev EE (op:Operator)(x y:V)(H:Hp)(Q:VK):Prop:=match op,x,y with
 | .Add,.int i,.int j=>Q (.int (i+j)) H
 | .Sub,.int i,.int j=>Q (.int (i-j)) H
 |_,_,_=>False
@[irreducible] noncomputable def uZ (K:W.Frag) (x y:V) (H:Hp) (Q:VK):Prop:=match x,y with
 | .ref p,.int i=>∃ xs v,aN K H p xs/\0<=i/\xs[i.toNat]? =some v/\Q v H
 |_,_=>False
abbrev yO (U:St):List Nat->List V->St
 |i::is,x::xs=>yO (U.set i (some x)) is xs
 |_,_=>U
@[irreducible] noncomputable def wA (xs:List V) (H:Hp) (Q:VK):Prop:=xs.length<=10000/\∀ p,H p=none->Q (.ref p) (upd H p (.lst xs))
@[irreducible] noncomputable def iP (xs:List V) (H:Hp) (Q:VK):Prop:=xs.length<=10000/\∀ p,H p=none->Q (.ref p) (upd H p (.tup xs))
@[irreducible] noncomputable def newD (H:Hp) (Q:VK):Prop:=∀ p,H p=none->Q (.ref p) (upd H p (.dK []))
@[irreducible] noncomputable def xO (l:Addr) (H:Hp) (R:It->Hp->Prop):Prop:=(∃ xs,H l=some (.lst xs))/\R (DG l) H
@[irreducible] noncomputable def oB (K:W.Frag) (p:Addr) (H:Hp) (R:It->Hp->Prop):Prop:=((∃ xs,aN K H p xs)/\R (Bt K p) H)\/((∃ xs,ba K H p xs)/\R (sG K p) H)\/False
@[irreducible] noncomputable def xF (K:W.Frag) (x y:V) (H:Hp) (R:It->Hp->Prop):Prop:=Dx K x y H R
@[irreducible] noncomputable def vE (C:Addr) (H:Hp) (Q:VK):Prop:=∀ x dx,H x=none->H dx=none->dx≠x->Q (.ref x) (upd (upd H dx (.own x)) x (.ins C dx []))
@[irreducible] noncomputable def CV (K:W.Frag) (x y:V) (H:Hp) (Q:VK):Prop:=FG K x y H Q
@[irreducible] noncomputable def nV (te:TE) (J:It) (σ₀:St) (H1:Hp) (Q:VK):Prop:=LC te J σ₀ H1 Q
def kZ: @nV= @LC:=by
 funext te J U H Q
 unfold nV
 rfl
@[irreducible] noncomputable def Et (tc:TT) (te:TE) (J:It) (σ₀:St) (H1:Hp) (Q:VK):Prop:=LCg (fM 0) tc te J σ₀ H1 Q
def Am: @Et= @LCg (fM 0):=by
 funext tc te J U H Q
 unfold Et
 rfl
abbrev gl (is:List Nat):yn:=λvs U H Q=>vs.length=is.length/\Q (yO U is vs) H
@[irreducible] noncomputable def LCt (K:W.Frag) (n:Nat) (te:TE) (J:It) (σ₀:St) (H1:Hp) (Q:VK):Prop:=LCg (wx K n (gl (List.range n))) yes te J σ₀ H1 Q
def Bp {K:W.Frag}{n:Nat}:LCt K n=LCg (wx K n (gl (List.range n))) yes:=by
 funext te J U H Q
 unfold LCt
 rfl
abbrev B8:List Str->List V->List (Key×V)
 |k::ks,x::xs=>(.inr k,x)::B8 ks xs
 |_,_=>[]
@[irreducible] noncomputable def pM (ks:List Str) (p:Addr) (xs:List V) (H:Hp) (Q:VK):Prop:=H p=some (.dK [])/\Q (.ref p) (upd H p (.dK (fU [] (B8 ks xs))))
mutual
noncomputable def wE (G:Gx):Ex->St->Hp->VK->XK->Prop
 | .v i,U,H,Q,_=>match U[i]? with
  |some (some x)=>Q x H
  |_=>False
 | .int i,_,H,Q,_=>Q (.int i) H
 | .bl b,_,H,Q,_=>Q (.bl b) H
 | .non,_,H,Q,_=>Q .non H
 | .str x,_,H,Q,_=>Q (.str x) H
 | .gl x,_,H,Q,_=>match G.R.gl x with
  |some v=>Q v H
  |none=>False
 | .bin op a b,U,H,Q,E=>wE G a U H (λx H1=>wE G b U H1 (λy H2=>AG G.R.K op x y H2 Q) E) E
 | .neg a,U,H,Q,E=>wE G a U H (λx H1=>match x with| .int i=>Q (.int (-i)) H1|_=>False) E
 | .not a,U,H,Q,E=>wE G a U H (λx H1=>match x with| .bl c=>Q (.bl (!c)) H1|_=>False) E
 | .and a b,U,H,Q,E=>wE G a U H (λx H1=>match x with| .bl c=>fP c (wE G b U H1 Q E) (Q (.bl false) H1)|_=>False) E
 | .or a b,U,H,Q,E=>wE G a U H (λx H1=>match x with| .bl c=>fP c (Q (.bl true) H1) (wE G b U H1 Q E)|_=>False) E
 | .cmp op a b,U,H,Q,E=>wE G a U H (λx H1=>wE G b U H1 (λy H2=>iL G.R.K op x y H2 Q) E) E
 | .cmp2 o1 o2 a b c,U,H,Q,E=>wE G a U H (λx H1=>wE G b U H1 (λy H2=>iL G.R.K o1 x y H2 λz H3=>match z with| .bl k=>fP k (wE G c U H3 (λw H4=>iL G.R.K o2 y w H4 Q) E) (Q (.bl false) H3)|_=>False) E) E
 | .cmp3 o1 o2 o3 a b c d,U,H,Q,E=>wE G a U H (λx H1=>wE G b U H1 (λy H2=>iL G.R.K o1 x y H2 λz H3=>match z with| .bl k=>fP k (wE G c U H3 (λw H4=>iL G.R.K o2 y w H4 λz' H5=>match z' with| .bl k'=>fP k' (wE G d U H5 (λw2 H6=>iL G.R.K o3 w w2 H6 Q) E) (Q (.bl false) H5)|_=>False) E) (Q (.bl false) H3)|_=>False) E) E
 | .ife c a b,U,H,Q,E=>wT G c U H (λk H1=>fP k (wE G a U H1 Q E) (wE G b U H1 Q E)) E
 | .tup es,U,H,Q,E=>wEs G es U H (λxs H1=>iP xs H1 Q) E
 | .lst es,U,H,Q,E=>wEs G es U H (λxs H1=>wA xs H1 Q) E
 | .ix a i,U,H,Q,E=>wE G a U H (λx H1=>wE G i U H1 (λy H2=>nh G.R.K x y H2 Q) E) E
 | .sl a lo hi,U,H,Q,E=>wE G a U H (λx H1=>wO G lo U H1 (λl H2=>wO G hi U H2 (λu H3=>y9 G.R.K x l u H3 Q) E) E) E
 | .fld a f,U,H,Q,E=>wE G a U H (λx H1=>oH G f x H1 Q) E
 | .call f es,U,H,Q,E=>G.cm=G.cm/\wEs G es U H (λvs H1=>G.yx f (vs++dflt G f es.len) H1 Q E) E
 | .meth a m es,U,H,Q,E=>G.cm=G.cm/\wE G a U H (λx H1=>∃ p i dx fs f,x=.ref p/\H1 p=some (.ins (G.R.cad i) dx fs)/\fs.lookup m=none/\G.T.me.lookup (i,m)=some f/\
   wEs G es U H1 (λvs H2=>G.yx f (x::(vs++dflt G f (es.len+1))) H2 Q E) E) E
 | .lm m a es,U,H,Q,E=>wE G a U H (λx H1=>∃ p xs0,x=.ref p/\H1 p=some (.lst xs0)/\wEs G es U H1 (λvs H2=>∃ xs,H2 p=some (.lst xs)/\AU m p xs vs H2 Q) E) E
 | .make c es,U,H,Q,E=>G.cm=G.cm/\match G.T.ini.lookup c with
  |none=>G.T.ini0.contains c=true/\wEs G es U H (λvs H1=>vs.length=1/\∀ x,H1 x=none->Q (.ref x) (upd H1 x (.exc (G.R.cad c) none [] true))) E
  |some f=>if G.T.xc.contains c=true then wEs G es U H (λvs H1=>vs.length<=1000/\∀ x,H1 x=none->G.yx f (.ref x::(vs++dflt G f (es.len+1))) (upd H1 x (.exc (G.R.cad c) none [] true)) (λv H2=>v=.non/\Q (.ref x) H2) E) E
   else wEs G es U H (λvs H1=>∀ x dx,H1 x=none->H1 dx=none->dx≠x->G.yx f (.ref x::(vs++dflt G f (es.len+1))) (upd (upd H1 dx (.own x)) x (.ins (G.R.cad c) dx [])) (λv H2=>v=.non/\Q (.ref x) H2) E) E
 | .bini es,U,H,Q,E=>wEs G es U H (λvs H1=>∃ a i dx fs fr v,vs=[.ref a,v]/\H1 a=some (.exc (G.R.cad i) dx fs fr)/\G.T.xc.contains i=true/\Q .non H1) E
 | .cini c es,U,H,Q,E=>False
 | .bf b es,U,H,Q,E=>wEs G es U H (λvs H1=>o6 G b vs H1 Q) E
 | .isi a c,U,H,Q,E=>wE G a U H (λx H1=>cX G c x H1 Q) E
 | .lc elt sel it,U,H,Q,E=>D8 G.cm (wI G it U H (λJ H1=>nV (λσ' H' Q'=>wE G elt σ' H' Q' E) J (none::eC U sel) H1 Q) E) (Fv G it U H (λJ H1=>nV (λσ' H' Q'=>wE { G with cm:=.mute } elt σ' H' Q' E) J (none::eC U sel) H1 Q) E)
 | .lci elt c sel it,U,H,Q,E=>False
 | .lct elt n sel it,U,H,Q,E=>False
 | .lcu elt c n sel it,U,H,Q,E=>False
 | .dnew,_,H,Q,_=>newD H Q
 | .sm m a b,U,H,Q,E=>False
 | .up a,U,H,Q,E=>False
 | .isiT a cs,U,H,Q,E=>wE G a U H (λx H1=>∀ p,H1 p=none->mF G cs x (upd H1 p (.tup (cs.map λc=>.ref (G.R.cad c)))) Q) E
 | .mk0 c,_,H,Q,_=>vE (G.R.cad c) H Q
 | .disp ks es,U,H,Q,E=>∀ p,H p=none->wEs G es U (upd H p (.dK [])) (λxs H2=>pM ks p xs H2 Q) E
 | .dget a k d,U,H,Q,E=>False
 | .dupd a b,U,H,Q,E=>False
 | .rev a b,U,H,Q,E=>False
 | .lix a b,U,H,Q,E=>False
 | .vals tp a,U,H,Q,E=>False
 | .dzip a b,U,H,Q,E=>G.cm=.calm/\wE G a U H (λx H1=>wE G b U H1 (λy H2=>CV G.R.K x y H2 Q) E) E
noncomputable def wT (G:Gx):Tx->St->Hp->(Bool->Hp->Prop)->XK->Prop
 | .not a,U,H,Q,E=>wT G a U H (λc H1=>Q (!c) H1) E
 | .and a b,U,H,Q,E=>wT G a U H (λc H1=>fP c (wT G b U H1 Q E) (Q false H1)) E
 | .or a b,U,H,Q,E=>wT G a U H (λc H1=>fP c (Q true H1) (wT G b U H1 Q E)) E
 | .cmp op a b,U,H,Q,E=>wE G a U H (λx H1=>wE G b U H1 (λy H2=>iL G.R.K op x y H2 λz H3=>match z with| .bl k=>Q k H3|_=>False) E) E
 | .cmp2 o1 o2 a b c,U,H,Q,E=>wE G a U H (λx H1=>wE G b U H1 (λy H2=>iL G.R.K o1 x y H2 λz H3=>match z with| .bl k=>fP k (wE G c U H3 (λw H4=>iL G.R.K o2 y w H4 λz H5=>match z with| .bl k=>Q k H5|_=>False) E) (Q false H3)|_=>False) E) E
 | .val e,U,H,Q,E=>wE G e U H (λx H1=>Be G.R.K x H1 Q) E
noncomputable def wEs (G:Gx):eI->St->Hp->(List V->Hp->Prop)->XK->Prop
 | .nil,_,H,Q,_=>Q [] H
 | .cons e es,U,H,Q,E=>wE G e U H (λx H1=>wEs G es U H1 (λxs H2=>Q (x::xs) H2) E) E
noncomputable def wO (G:Gx):El->St->Hp->(Option Int->Hp->Prop)->XK->Prop
 | .no,_,H,Q,_=>Q none H
 | .yes e,U,H,Q,E=>wE G e U H (λx H1=>match x with| .int i=>Q (some i) H1|_=>False) E
noncomputable def Fv (G:Gx):xI->St->Hp->(It->Hp->Prop)->XK->Prop
 | .seq a,U,H,R,E=>wE G a U H (λx H1=>match x with| .ref p=>(∃ xs,ba G.R.K H1 p xs)/\R (sG G.R.K p) H1|_=>False) E
 |_,_,_,_,_=>False
noncomputable def wI (G:Gx):xI->St->Hp->(It->Hp->Prop)->XK->Prop
 | .rng1 a,U,H,R,E=>wE G a U H (λx H1=>match x with| .int j=>-(2 ^ 62)<=j/\j<2 ^ 62/\R (zH 0 j.toNat) H1|_=>False) E
 | .rng2 a b,U,H,R,E=>wE G a U H (λx H1=>wE G b U H1 (λy H2=>match x,y with| .int i,.int j=>(-(2 ^ 62)<=i/\i<2 ^ 62/\ -(2 ^ 62)<=j/\j<2 ^ 62)/\R (zH i (j-i).toNat) H2|_,_=>False) E) E
 | .rng3 a b c,U,H,R,E=>False
 | .enm a,U,H,R,E=>wE G a U H (λx H1=>match x with| .ref l=>xO l H1 R|_=>False) E
 | .enf a,U,H,R,E=>False
 | .seq a,U,H,R,E=>wE G a U H (λx H1=>match x with| .ref p=>oB G.R.K p H1 R| .str z=>R (B9 z) H1|_=>False) E
 | .zip a b,U,H,R,E=>wE G a U H (λx H1=>wE G b U H1 (λy H2=>xF G.R.K x y H2 R) E) E
 | .zip3 a b c,U,H,R,E=>False
end
abbrev BQ (D:Ends)(f:St->Hp->Prop):Ends:={ D with nx:=f }
abbrev CM (D:Ends)(N:St->Hp->Prop):Ends:={ D with nx:=N,ct:=N,bk:=D.nx }
abbrev Ge (D:Ends)(i:Nat):Ends:={ nx:=λσ' H'=>D.nx (σ'.set i none) H',rt:=D.rt,bk:=λσ' H'=>D.bk (σ'.set i none) H',ct:=λσ' H'=>D.ct (σ'.set i none) H' }
abbrev wG (U:St)(t:D7)(K:W.Frag)(x:V)(H:Hp)(Q:St->Prop):Prop:=match t with
 | .nm i=>Q (U.set i (some x))
 | .tp is=>∃ a xs,x=.ref a/\(ba K H a xs\/aN K H a xs)/\xs.length=is.length/\Q (yO U is xs)
 | .nt i is=>∃ a y b ys,x=.ref a/\ba K H a [y,.ref b]/\ba K H b ys/\ys.length=is.length/\Q (yO (U.set i (some y)) is ys)
@[irreducible] noncomputable def i5 (J:It) (D:Ends) (F:(St->Hp->Prop)->V->St->Hp->Prop) (U:St) (H1:Hp):Prop:=∃ W:Nat->Nat->St->Hp->Prop,(∃ m,W 0 m U H1)/\∀ i m U H,W i m U H->
 (J.stop i H/\D.nx U H)\/(J.go i H/\∃ N:St->Hp->Prop,(∀ σ' H',N σ' H'->∃ m',m'<m/\W (i+1) m' σ' H')/\∀ x H',J.yld i H x H'->F N x U H')
mutual
noncomputable def wS:Sx->Gx->Ends->(St->XK)->St->Hp->Prop
 | .asg i e,G,D,E,U,H=>wE G e U H (λx H1=>D.nx (U.set i (some x)) H1) (E U)
 | .asgT is e,G,D,E,U,H=>G.cm=.calm/\wE G e U H (λx H1=>wG U (.tp is) G.R.K x H1 λσ1=>D.nx σ1 H1) (E U)
 | .par is es,G,D,E,U,H=>False
 | .sub o i v,G,D,E,U,H=>wE G v U H (λy H1=>wE G o U H1 (λov H2=>wE G i U H2 (λiv H3=>qL ov iv y H3 (λH4=>D.nx U H4)) (E U)) (E U)) (E U)
 | .fld o f v,G,D,E,U,H=>wE G v U H (λy H1=>wE G o U H1 (λx H2=>xb G f x y H2 (λH3=>D.nx U H3)) (E U)) (E U)
 | .aug i op e,G,D,E,U,H=>False
 | .augS o i op e,G,D,E,U,H=>wE G o U H (λov H1=>wE G i U H1 (λiv H2=>uZ G.R.K ov iv H2 (λx H3=>wE G e U H3 (λy H4=>EE op x y H4 (λz H5=>qL ov iv z H5 (λH6=>D.nx U H6))) (E U))) (E U)) (E U)
 | .augF o f op e,G,D,E,U,H=>False
 | .ret e,G,D,E,U,H=>wE G e U H D.rt (E U)
 | .retN,_,D,_,_,H=>False
 | .pass,_,D,_,U,H=>False
 | .brk,_,D,_,U,H=>False
 | .cont,_,D,_,U,H=>False
 | .expr e,G,D,E,U,H=>wE G e U H (λ_ H1=>D.nx U H1) (E U)
 | .ife c a b,G,D,E,U,H=>wT G c U H (λk H1=>fP k (wB a G D E U H1) (wB b G D E U H1)) (E U)
 | .whl c b,G,D,E,U,H=>False
 | .for t it b,G,D,E,U,H=>G.cm=.calm/\wI G it U H (λJ H1=>i5 J D (λN x U H'=>wG U t G.R.K x H' λσ2=>wB b G (CM D N) E σ2 H') U H1) (E U)
 | .rais e,G,_,E,U,H=>G.cm=.calm/\wE G e U H (λv H1=>∃ a i dx fs,v=.ref a/\H1 a=some (.exc (G.R.cad i) dx fs true)/\G.T.xc.contains i=true/\E U a (upd H1 a (.exc (G.R.cad i) dx fs false))) (E U)
 | .tryx b hs,G,D,_,U,H=>G.cm=.calm/\wB b G D (λσ' e H'=>wH hs G D σ' e H') U H
noncomputable def wB:je->Gx->Ends->(St->XK)->St->Hp->Prop
 | .nil,_,D,_,U,H=>D.nx U H
 | .cons s r,G,D,E,U,H=>wS s G (BQ D λσ1 H1=>wB r G D E σ1 H1) E U H
noncomputable def wH:vT->Gx->Ends->St->Addr->Hp->Prop
 | .nil,_,_,_,_,_=>False
 | .cons c i b hs,G,D,U,e,H=>∃ j dx fs k,H e=some (.exc (G.R.cad j) dx fs false)/\G.T.xc.contains j=true/\G.T.sub.lookup (j,c)=some k/\
   fP k (wB b { G with cm:=.aF e } (Ge D i) (λ_ _ _=>False) (U.set i (some (.ref e))) H)
    (wH hs G D U e H)
end
end L3
namespace L3
open PySem PySem.Spec L2 PyProof.Rows
structure Sn where
 T:Tab
 sc:Scope
 N:List Str
abbrev Sn.jm (S:Sn)(x:Str):Bool:=decide (S.sc.names.lookup x=some .globalImplicit)&& !(x ==("__debug__":Str))
abbrev Sn.Dp (S:Sn)(x:Str):Bool:=(decide (S.sc.names.lookup x=some .local)||decide (S.sc.names.lookup x=some .cell)||decide (S.sc.names.lookup x=some .free))&& !(x ==("__debug__":Str))&& !(x ==("__classdict__":Str))
abbrev Sn.loc (S:Sn)(i:Nat)(x:Str):Bool:=decide (S.N[i]? =some x)&&(decide (S.sc.names.lookup x=some .local)||decide (S.sc.names.lookup x=some .cell))
abbrev nM:Expr->Bool
 | .ListComp .. | .SetComp .. | .DictComp ..=>false
 |_=>true
abbrev cp:Expr->Bool
 | .Set ..=>false
 |_=>true
abbrev dY:Expr->Bool
 | .Slice ..=>false
 |_=>true
abbrev fN:Expr->Bool
 | .Call (.Name _ _) [] [] _=>false
 |_=>true
abbrev plainT:Expr->Bool
 | .UnaryOp .Not _ _| .BoolOp .. | .IfExp .. | .Compare ..=>false
 |_=>true
abbrev uF:Bf->String
 | .len=>"len"| .list=>"list"| .tuple=>"tuple"| .int=>"int"| .str=>"str"| .min=>"min"| .max=>"max"| .abs=>"abs"| .all=>"all"| .any=>"any"| .dict=>"dict"| .sum=>"sum"
abbrev uD:Lm->String
 | .append=>"append"| .extend=>"extend"| .insert=>"insert"| .pop=>"pop"| .clear=>"clear"| .reverse=>"reverse"| .count=>"count"
abbrev gS:List String:=["int","bool","str","list","tuple","dict","ValueError"]
abbrev ye (S:Sn):Cl->Expr->Bool
 | .own c,.Name x _=>S.jm x&&decide (S.T.gcl.lookup x=some c)
 | .ty n,.Name x _=>S.jm x&&decide (x=(n:Str))&&S.T.gbl.contains x&&gS.contains n
 |_,_=>false
abbrev pV (S:Sn):List Nat->List Expr->Bool
 | [],[]=>true
 |c::cs,.Name x _::es=>S.jm x&&decide (S.T.gcl.lookup x=some c)&&pV S cs es
 |_,_=>false
abbrev dy (outer inner:Scope):Scope:=
 { inner with names:=inner.names.map λ(n,k)=>if(k ==.free&&outer.kind ==.function&&outer.names.lookup n ==some .cell) then(n,.cell) else(n,k) }
abbrev gk (S:Sn)(scope:Scope)(xs:List Str)(sel:List Nat):Bool:=
 decide (scope.kind=.function)&&decide (S.sc.kind=.function)&&scope.names.all (λy=>y.2 != .cell&&(y.2 != .local||decide (scope.names.lookup y.1=some .local))&&(y.2 != .free||(decide (S.sc.names.lookup y.1=some .cell))))&&xs.all (λx=>decide (scope.names.lookup x=some .local))&&
 sel.all (λi=>match S.N[i]? with|some y=>decide (S.sc.names.lookup y=some .cell)&&decide ((dy S.sc scope).names.lookup y=some .cell)|none=>false)&&decide ((xs++sel.filterMap λi=>S.N[i]?).Nodup)
abbrev Cp:List Expr->List Str
 | .Name x _::r=>x::Cp r
 |_=>[]
abbrev tT (S:Sn):List Nat->List Expr->Bool
 | [],[]=>true
 |i::is,.Name x _::r=>decide (S.N[i]? =some x)&&decide (S.sc.names.lookup x=some .local)&&tT S is r
 |_,_=>false
abbrev kH:List Str->List (Option Expr)->Bool
 | [],[]=>true
 |k::ks,some (.Constant (.str x) _ _)::r=>decide (k=x)&&kH ks r
 |_,_=>false
mutual
noncomputable def mE (S:Sn):Ex->Expr->Bool
 | .v i,e=>match e with| .Name x _=>decide (S.N[i]? =some x)&&S.Dp x|_=>false
 | .int i,e=>match e with| .Constant y1 _ _=>(match y1 with| .int j=>decide (i=j)|_=>false)|_=>false
 | .bl i,e=>match e with| .Constant y1 _ _=>(match y1 with| .bool j=>decide (i=j)|_=>false)|_=>false
 | .non,e=>match e with| .Constant y1 _ _=>(match y1 with| .none=>true|_=>false)|_=>false
 | .str i,e=>match e with| .Constant y1 _ _=>(match y1 with| .str j=>decide (i=j)|_=>false)|_=>false
 | .gl x,e=>match e with| .Name y _=>decide (x=y)&&S.jm y|_=>false
 | .bin op a b,e=>match e with| .BinOp a' op' b' _=>decide (op=op')&&mE S a a'&&mE S b b'|_=>false
 | .neg a,e=>match e with| .UnaryOp y1 a' _=>(match y1 with| .USub=>mE S a a'|_=>false)|_=>false
 | .not a,e=>match e with| .UnaryOp y1 a' _=>(match y1 with| .Not=>mE S a a'|_=>false)|_=>false
 | .and a b,e=>match e with| .BoolOp y1 y2 p=>(match y1 with| .And=>(match y2 with|a'::b'::r=>mE S a a'&&mE S b (match r with| []=>b'|_=>.BoolOp .And (b'::r) p)|_=>false)|_=>false)|_=>false
 | .or a b,e=>match e with| .BoolOp y1 y2 p=>(match y1 with| .Or=>(match y2 with|a'::b'::r=>mE S a a'&&mE S b (match r with| []=>b'|_=>.BoolOp .Or (b'::r) p)|_=>false)|_=>false)|_=>false
 | .cmp op a b,e=>match e with| .Compare a' y1 y2 _=>(match y1 with| [op']=>(match y2 with| [b']=>decide (op=op')&&mE S a a'&&mE S b b'&&cp b'|_=>false)|_=>false)|_=>false
 | .cmp2 o1 o2 a b c,e=>match e with| .Compare a' y1 y2 _=>(match y1 with| [p1,p2]=>(match y2 with| [b',c']=>decide (o1=p1)&&decide (o2=p2)&&mE S a a'&&mE S b b'&&mE S c c'&&cp c'|_=>false)|_=>false)|_=>false
 | .cmp3 o1 o2 o3 a b c d,e=>match e with| .Compare a' y1 y2 _=>(match y1 with| [p1,p2,p3]=>(match y2 with| [b',c',d']=>decide (o1=p1)&&decide (o2=p2)&&decide (o3=p3)&&mE S a a'&&mE S b b'&&mE S c c'&&mE S d d'&&cp d'|_=>false)|_=>false)|_=>false
 | .ife c a b,e=>match e with| .IfExp c' a' b' _=>mT S c c'&&mE S a a'&&mE S b b'|_=>false
 | .tup es,e=>match e with| .Tuple es' _ _=>gI S es es'|_=>false
 | .lst es,e=>match e with| .List es' _=>gI S es es'|_=>false
 | .ix a i,e=>match e with| .Subscript a' i' _=>mE S a a'&&mE S i i'&&dY i'|_=>false
 | .sl a lo hi,e=>match e with| .Subscript a' y1 _=>(match y1 with| .Slice lo' hi' y2 _=>(match y2 with|none=>mE S a a'&&mO S lo lo'&&mO S hi hi'|_=>false)|_=>false)|_=>false
 | .fld a f,e=>match e with| .Attribute a' f' _=>mE S a a'&&decide (f=f')&&fN a'|_=>false
 | .call f es,e=>match e with| .Call y1 es' y2 _=>(match y1 with| .Name x _=>(match y2 with| []=>S.jm x&&decide (S.T.gfn.lookup x=some f)&&gI S es es'|_=>false)|_=>false)|_=>false
 | .meth a m es,e=>match e with| .Call y1 es' y2 q=>(match y1 with| .Attribute a' m' p=>(match y2 with| []=>mE S a a'&&decide (m=m')&&gI S es es'&&fN a'&&(p.endLine ==q.line)&&decide (es.len<20)|_=>false)|_=>false)|_=>false
 | .dget a k d,_=>false
 | .dupd a b,_=>false
 | .rev a b,_=>false
 | .lix a b,_=>false
 | .lm m a es,e=>match e with| .Call y1 es' y2 q=>(match y1 with| .Attribute a' m' p=>(match y2 with| []=>mE S a a'&&decide (m'=(uD m:Str))&&gI S es es'&&fN a'&&(p.endLine ==q.line)&&decide (es.len<20)|_=>false)|_=>false)|_=>false
 | .make c es,e=>match e with| .Call y1 es' y2 _=>(match y1 with| .Name x _=>(match y2 with| []=>S.jm x&&decide (S.T.gcl.lookup x=some c)&&gI S es es'|_=>false)|_=>false)|_=>false
 | .bini es,e=>match e with| .Call y1 es' y2 q=>(match y1 with| .Attribute y3 m p=>(match y3 with| .Name x _=>(match y2 with| []=>S.jm x&&decide (m=("__init__":Str))&&S.T.gbi.contains x&&gI S es es'&&decide (es.len=2)&&(p.endLine ==q.line)|_=>false)|_=>false)|_=>false)|_=>false
 | .cini c es,_=>false
 | .bf b es,e=>match e with| .Call y1 es' y2 _=>(match y1 with| .Name x _=>(match y2 with| []=>S.jm x&&decide (x=(uF b:Str))&&S.T.gbl.contains x&&gI S es es'&&decide (0<es.len)|_=>false)|_=>false)|_=>false
 | .isi a c,e=>match e with| .Call y1 y2 y3 _=>(match y1 with| .Name x _=>(match y3 with| []=>(match y2 with| [a',c']=>S.jm x&&decide (x=("isinstance":Str))&&S.T.gbl.contains x&&mE S a a'&&ye S c c'|_=>false)|_=>false)|_=>false)|_=>false
 | .lc elt sel it,e=>match e with| .ListComp elt' y1 scope _=>(match y1 with| [y2]=>(match y2 with|⟨y3,iter,y4,y5⟩=>(match y3 with| .Name x px=>(match y4 with| []=>(match y5 with|0=>gk S scope [x] sel&&mI S it (.Name x px) iter&&mE { S with sc:=dy S.sc scope,N:=x::sel.filterMap λi=>S.N[i]? } elt elt'&&cp iter|_=>false)|_=>false)|_=>false))|_=>false)|_=>false
 | .lci elt c sel it,_=>false
 | .lct elt n sel it,_=>false
 | .lcu elt c n sel it,_=>false
 | .dnew,e=>match e with| .Dict y1 y2 _=>(match y1 with| []=>(match y2 with| []=>true|_=>false)|_=>false)|_=>false
 | .sm m a b,_=>false
 | .up a,_=>false
 | .isiT a cs,e=>match e with| .Call y1 y2 y3 _=>(match y1 with| .Name x _=>(match y3 with| []=>(match y2 with| [a',y4]=>(match y4 with| .Tuple es' _ _=>S.jm x&&decide (x=("isinstance":Str))&&S.T.gbl.contains x&&mE S a a'&&pV S cs es'&&decide (cs.length<=100)|_=>false)|_=>false)|_=>false)|_=>false)|_=>false
 | .mk0 c,e=>match e with| .Call y1 y2 y3 _=>(match y1 with| .Name x _=>(match y2 with| []=>(match y3 with| []=>S.jm x&&decide (S.T.gcl.lookup x=some c)&&S.T.inip.contains c|_=>false)|_=>false)|_=>false)|_=>false
 | .disp ks es,e=>match e with| .Dict keys vals _=>kH ks keys&&gI S es vals&&decide (es.len=ks.length)&&decide (0<ks.length)&&decide (ks.length<=15)|_=>false
 | .vals tp a,_=>false
 | .dzip a b,e=>match e with| .Call y1 y2 y3 _=>(match y1 with| .Name x _=>(match y3 with| []=>(match y2 with| [y4]=>(match y4 with| .Call y5 y6 y7 _=>(match y5 with| .Name y _=>(match y7 with| []=>(match y6 with| [a',b']=>S.jm x&&decide (x=("dict":Str))&&S.T.gbl.contains x&&S.jm y&&decide (y=("zip":Str))&&S.T.gbl.contains y&&mE S a a'&&mE S b b'&&notStar a'&&notStar b'|_=>false)|_=>false)|_=>false)|_=>false)|_=>false)|_=>false)|_=>false)|_=>false
noncomputable def mT (S:Sn):Tx->Expr->Bool
 | .not a,e=>match e with| .UnaryOp y1 a' _=>(match y1 with| .Not=>mT S a a'|_=>false)|_=>false
 | .and a b,e=>match e with| .BoolOp y1 y2 p=>(match y1 with| .And=>(match y2 with|a'::b'::r=>mT S a a'&&mT S b (match r with| []=>b'|_=>.BoolOp .And (b'::r) p)|_=>false)|_=>false)|_=>false
 | .or a b,e=>match e with| .BoolOp y1 y2 p=>(match y1 with| .Or=>(match y2 with|a'::b'::r=>mT S a a'&&mT S b (match r with| []=>b'|_=>.BoolOp .Or (b'::r) p)|_=>false)|_=>false)|_=>false
 | .cmp op a b,e=>match e with| .Compare a' y1 y2 _=>(match y1 with| [op']=>(match y2 with| [b']=>decide (op=op')&&mE S a a'&&mE S b b'&&cp b'|_=>false)|_=>false)|_=>false
 | .cmp2 o1 o2 a b c,e=>match e with| .Compare a' y1 y2 _=>(match y1 with| [p1,p2]=>(match y2 with| [b',c']=>decide (o1=p1)&&decide (o2=p2)&&mE S a a'&&mE S b b'&&mE S c c'&&cp c'|_=>false)|_=>false)|_=>false
 | .val e,e'=>mE S e e'&&plainT e'
noncomputable def gI (S:Sn):eI->List Expr->Bool
 | .nil,es=>es.isEmpty
 | .cons e es,l=>match l with|e'::es'=>mE S e e'&&notStar e'&&gI S es es'| []=>false
noncomputable def mO (S:Sn):El->Option Expr->Bool
 | .no,o=>o.isNone
 | .yes e,o=>match o with|some e'=>mE S e e'|none=>false
noncomputable def mI (S:Sn):xI->Expr->Expr->Bool
 | .rng1 a,_,e=>match e with| .Call y1 y2 y3 _=>(match y1 with| .Name x _=>(match y3 with| []=>(match y2 with| [a']=>S.jm x&&decide (x=("range":Str))&&S.T.gbl.contains x&&mE S a a'&&notStar a'|_=>false)|_=>false)|_=>false)|_=>false
 | .rng2 a b,_,e=>match e with| .Call y1 y2 y3 _=>(match y1 with| .Name x _=>(match y3 with| []=>(match y2 with| [a',b']=>S.jm x&&decide (x=("range":Str))&&S.T.gbl.contains x&&mE S a a'&&mE S b b'&&notStar a'&&notStar b'|_=>false)|_=>false)|_=>false)|_=>false
 | .rng3 a b c,_,e=>false
 | .enm a,t,e=>match e with| .Call y1 y2 y3 _=>(match y1 with| .Name x _=>(match y3 with| []=>(match y2 with| [a']=>S.jm x&&decide (x=("enumerate":Str))&&S.T.gbl.contains x&&mE S a a'&&notStar a'&&(match t with| .Tuple ..=>true|_=>false)|_=>false)|_=>false)|_=>false)|_=>false
 | .enf a,t,e=>false
 | .seq a,_,e=>mE S a e
 | .zip a b,t,e=>match e with| .Call y1 y2 y3 _=>(match y1 with| .Name x _=>(match y3 with| []=>(match y2 with| [a',b']=>S.jm x&&decide (x=("zip":Str))&&S.T.gbl.contains x&&mE S a a'&&mE S b b'&&notStar a'&&notStar b'&&(match t with| .Tuple ..=>true|_=>false)|_=>false)|_=>false)|_=>false)|_=>false
 | .zip3 a b c,t,e=>false
end
end L3
namespace L3
open PySem PySem.Spec L2
variable {e:Expr}
def plainT_ok (h:plainT e=true)(env:Env)(whole:Sem Value):isTrue e env whole=(do let v <-whole;standAt e.pos;holding [v] (truthy v)):=by
 cases e<;>first|rfl|(cases h)|skip
 case UnaryOp op a p=>cases op<;>first|rfl|cases h
def aR (h:cp e=true)(env:Env)(x:Value):foldedSetIterable e env x=pure x:=by
 cases e<;>first|rfl|cases h
def ck (h:cp e=true)(op:CmpOp):behindInMarks op e=false:=by
 cases e<;>first|rfl|cases h
def fJ (h:nM e=true)(t:Option Expr)(n:Nat)(env:Env):swapsWith e t n env=pure false:=by
 cases e<;>first|rfl|cases h
variable {o:Expr}
def cj (h:fN o=true)(a:Str)(env:Env)(whole:Sem Value):attributeBase o a env whole=whole:=by
 cases o with
 |Call f as ks p=>
  cases f<;>first|rfl|skip
  case Name x q=>
   cases as with
   |nil=>cases ks with
    |nil=>cases h
    |cons k ks=>rfl
   |cons b bs=>rfl
 |_=>rfl
variable {b:Expr}
def oo (h:dY b=true):pW b:=by
 intro o i;cases b<;>first|rfl|cases h
variable {X:Cx}
def PE.bJ {t:TE}(h:PE X e t):PE X e (λU H R=>∃ Q,t U H Q/\∀ x H1,Q x H1->R x H1):=λY s U H R I ⟨Q,q,i⟩=>
 ar (h Y s U H Q I q) λ_ _ ⟨v,H',J,r,z⟩=>⟨v,H',J,r,i _ _ z⟩
variable {t:TT}
def PT.bJ (h:PT X e t):PT X e (λU H R=>∃ Q,t U H Q/\∀ x H1,Q x H1->R x H1):=λY s U H R I ⟨Q,q,i⟩=>
 ar (h Y s U H Q I q) λ_ _ ⟨H',J,z⟩=>⟨H',J,i _ _ z⟩
def PA.bJ {e:List Expr}{t:TA}(h:PA X e t):PA X e (λU H R=>∃ Q,t U H Q/\∀ x H1,Q x H1->R x H1):=λpos Y s U H R I ⟨Q,q,i⟩=>
 ar (h pos Y s U H Q I q) λ_ _ ⟨v,H',J,r,z⟩=>⟨v,H',J,r,i _ _ z⟩
def PE.imp {t t':TE}(h:PE X e t)(hi:∀ U H Q,t' U H Q->t U H Q):PE X e t':=λY s U H Q I q=>h Y s U H Q I (hi _ _ _ q)
def PT.imp {t':TT}(h:PT X e t)(hi:∀ U H Q,t' U H Q->t U H Q):PT X e t':=λY s U H Q I q=>h Y s U H Q I (hi _ _ _ q)
def PS.imp {e:Stmt}{t t':TS}(h:PS X e t)(hi:∀ D U H,t' D U H->t D U H):PS X e t':=λY s U H D I q=>h Y s U H D I (hi _ _ _ q)
structure cw (c:Bool) (P:Program) (w:World) (K:W.Frag) (mg:GF) (base:Heap) (k:Nat) (f:Addr) (d:aw) (sp:Sp):Prop where
 fact:∃ fd,cE c P w K mg base (t7 P w) k f fd d.ps sp/\∀ j,∃ ds,Binds K fd d.ps ds/\Vals (d.dfl.drop j) ds
 own:∀ fd oc od osl,K.lookup f=some ⟨oc,od,.func fd,osl⟩->cE c P w K mg base (t7 P w) k f fd d.ps sp
variable {K:W.Frag}
def cw.imp {c:Bool}{P:Program}{w:World}{mg:GF}{base:Heap}{k:Nat}{f:Addr}{d:aw}{sp sp':Sp}(F:cw c P w K mg base k f d sp)(h:∀ vs H Q E,sp' vs H Q E->sp vs H Q E):cw c P w K mg base k f d sp':=
 ⟨let⟨fd,o,b⟩:=F.fact;⟨fd,o.imp h,b⟩,λfd oc od osl e=>(F.own fd oc od osl e).imp h⟩
structure wV (K:W.Frag) (mg:GF) (T:Tab) (R:Rt):Prop where
 gfn:∀ x f,T.gfn.lookup x=some f->mg x=some (.ref (R.fad f))/\W.keepIn K (.ref (R.fad f))=true/\∃ d,T.fns[f]? =some d
 gcl:∀ x c,T.gcl.lookup x=some c->mg x=some (.ref (R.cad c))
 gbl:∀ x,T.gbl.contains x=true->mg x=none/\x≠"__name__"
 gbi:∀ x,T.gbi.contains x=true->∃ B,mg x=some (.ref B)/\FW K B
 gl:∀ x v,R.gl x=some v->∃ u,mg x=some u/\RelV v u
 na:∀ i f,T.na.contains (i,f)=true->dD K (R.cad i) f
 me:∀ i m f,T.me.lookup (i,m)=some f->xj K (R.cad i)/\Meth K (R.cad i) m (R.fad f)/\∃ d,T.fns[f]? =some d
 ini0:∀ c,T.ini0.contains c=true->BP K (R.cad c)
 inip:∀ c,T.inip.contains c=true->FY K (R.cad c)
 ini:∀ c f,T.ini.lookup c=some f->(∃ d,T.fns[f]? =some d)/\if T.xc.contains c=true then Ef K (R.cad c) (R.fad f) else Mk K (R.cad c) (R.fad f)
 oc:∀ c,T.oc.contains c=true->xj K (R.cad c)/\EL K (R.cad c)
 xc:∀ c,T.xc.contains c=true->b9 K (R.cad c)/\sV K (R.cad c)
 sub:∀ i j b,T.sub.lookup (i,j)=some b->W.kitOne K (.ref (R.cad i)) (.ref (R.cad j))=some b/\(T.xc.contains i=true->W.mroIn K (R.cad i) (.ref (R.cad j))=some b/\b9 K (R.cad j))
 subT:∀ i n b,T.subT.lookup (i,n)=some b->W.kitOne K (.ref (R.cad i)) (.type n)=some b
 subB:∀ t n b,T.subB.lookup (t,n)=some b->W.kitOne K (.type t) (.type n)=some b
 subO:∀ t j b,T.subO.lookup (t,j)=some b->W.kitOne K (.type t) (.ref (R.cad j))=some b
 cin:∀ c f,T.cin.lookup c=some f->Gz K (R.cad c) (R.fad f)/\∃ d,T.fns[f]? =some d
structure Gd (X:Cx) (G:Gx) (S:Sn) (k:Nat) (E:St->XK):Prop where
 hK:G.R.K=X.K
 hT:S.T=G.T
 sc:X.env.scope=S.sc
 N:X.N=S.N
 nd:S.N.Nodup
 pass:Passes (t7 X.prog X.w) X E
 hd:match G.cm with| .calm=>X.calm=true| .soft=>eh X| .aF e=>X.A.handled=some (.ref e)| .mute=>True
 xok:zY X E
 xst:∃ e0 o0 L,X.stack=e0::o0/\e0.frame=some L/\X.env.frame=some L
 room:bb (k+1) X.A
 un:X.A.units+200<cLine
 tab:wV X.K X.mg G.T G.R
 fns:∀ f d,G.T.fns[f]? =some d->cw G.cm.b X.prog X.w X.K X.mg X.base k (G.R.fad f) d (G.yx f)
 fnsU:G.cm=.calm->∀ f d,G.T.fns[f]? =some d->cw false X.prog X.w X.K X.mg X.base k (G.R.fad f) d (G.Ψ (f+G.T.fns.length))
variable {Y:GD}{H:Hp}{s:Shared}{x:Str}{l es:List Expr}
section
variable {X:Cx}{G:Gx}{S:Sn}{k:Nat}{E:St->XK}
def Gd.cm (g:Gd X G S k E)(hc:G.cm=.calm):X.calm=true:=by
 have h:=g.hd;rw[hc]at h;exact h
def Gd.hh (g:Gd X G S k E){f:Nat}{U:St}{vs:List V}{Q:VK}{E0:XK}(I:Inv X Y U H s)(h:G.yx f vs H Q E0):sL G.cm.b X.A.handled H:=by
 have hd:=g.hd;unfold Gx.yx at h;generalize G.cm=m at*;cases m with
 |calm=>exact I.ok.hd hd
 |soft=>exact eh.now hd I
 |aF e=>exact let⟨⟨C,dx,fs,he⟩,_⟩:=h;⟨e,C,dx,fs,hd,he⟩
 |mute=>exact h.elim
def Gd.cx (g:Gd X G S k E)(U:St):jn X U (E U):=⟨λH s e C dx fs=>g.xok U H s e C dx fs,g.xst⟩
def Gd.bin (g:Gd X G S k E)(op:Operator):bY X (binaryOp op) (AG G.R.K op):=g.hK▸B3 op
def Gd.cmp (g:Gd X G S k E)(op:CmpOp):bY X (compareOp op) (iL G.R.K op):=g.hK▸Br g.un op
def Gd.glob (g:Gd X G S k E)(h:S.jm x=true):Gl X x/\(x ==("__debug__":Str))=false:=by
 unfold Sn.jm at h;simp only[lw,decide_eq_true_eq,Bool.not_eq_true']at h;refine⟨?_,h.2⟩;show X.env.scope.names.lookup x=_;rw[g.sc];exact h.1
def Gd.Dp (g:Gd X G S k E)(h:S.Dp x=true):D9 X.env.scope x/\(x ==("__debug__":Str))=false/\(x ==("__classdict__":Str))=false:=by
 unfold Sn.Dp at h;simp only[lw,Bool.or_eq_true,decide_eq_true_eq,Bool.not_eq_true']at h;refine⟨?_,h.1.2,h.2⟩;unfold D9;rw[g.sc];rcases h.1.1 with(h|h)|h
 .exact .inl h
 .exact .inr (.inl h)
 .exact .inr (.inr h)
def Gd.loc (g:Gd X G S k E){i:Nat}(h:S.loc i x=true):X.N[i]? =some x/\L2.Loc X.env.scope x:=by
 unfold Sn.loc at h;simp only[lw,Bool.or_eq_true,decide_eq_true_eq]at h;rw[g.N];refine⟨h.1,?_⟩;unfold L2.Loc;rw[g.sc];exact h.2
def aI:∀ {es:eI}{l:List Expr},gI S es l=true->∀ (env:Env) (pos:Pos),(backTo pos (bm l env)).any (·.1)=false
 | .nil,[],_,_,_=>rfl
 | .nil,_::_,h,_,_=>by cases(show false=true from h)
 | .cons e es,[],h,_,_=>by cases(show false=true from h)
 | .cons e es,e'::l,h,env,pos=>by
  have h:(mE S e e'&&notStar e'&&gI S es l)=true:=h;simp only[lw]at h;rw[ab h.1.2];show((backTo pos (bm l env)).any (·.1))=false;exact aI h.2 env pos
def kr:∀ {es:eI}{l:List Expr},gI S es l=true->l.length=es.len
 | .nil,[],_=>rfl
 | .nil,_::_,h=>by cases(show false=true from h)
 | .cons e es,[],h=>by cases(show false=true from h)
 | .cons e es,e'::l,h=>by
  have h:(mE S e e'&&notStar e'&&gI S es l)=true:=h;simp only[lw]at h;show l.length+1=es.len+1;rw[kr h.2]
def a7 {es:eI}(h:gI S es (e::l)=true):notStar e=true/\∃ x es',es=.cons x es'/\gI S es' l=true:=by
 cases es with
 |nil=>cases(show false=true from h)
 |cons x es'=>
  have h:(mE S x e&&notStar e&&gI S es' l)=true:=h;simp only[lw]at h;exact⟨h.1.2,x,es',rfl,h.2⟩
def p6:∀ {es:eI}{l:List Expr},gI S es l=true->es.len<20->∀ (env:Env) (cpos:Pos),methodCallForm (l.length+([]:List Keyword).length) (backTo cpos (bm l env)) (backToKw cpos (keywordEach [] env))=true:=by
 intro es l h hl env cpos;have h1:=aI h env cpos;have h2:=kr h;have h3:(backTo cpos (bm l env)).all (λx=>!x.1)=true:=by
  rw[all_eq_true];intro x hx;rw[any_eq_false]at h1;simpa using h1 x hx
 unfold methodCallForm;rw[h3,h2];simp[keywordEach,backToKw]
 omega
def jF {m:Str}{apos pos:Pos}{env:Env}(hb:fN o=true)(hf:methodCallForm (es.length+([]:List Keyword).length) (backTo pos (bm es env)) (backToKw pos (keywordEach [] env))=true)(hl:(apos.endLine ==pos.line)=true):
  eval (.Call (.Attribute o m apos) es [] pos) env=(do
   let ov <-eval o env
   standAt apos.atName
   let(f,first) <-holding [ov] (getMethod ov m (do return (<-importBound o env).getD true))
   callWith pos f first (backTo pos (bm es env)) (backToKw pos (keywordEach [] env))):=by
 show(do
  let ov <-attributeBase o m env (eval o env)
  standAt apos.atName
  methodCall o m apos pos env ov (es.length+([]:List Keyword).length) (backTo pos (bm es env)) (backToKw pos (keywordEach [] env)))=_
 rw[cj hb];unfold methodCall calleeOf methodCallPos;rw[hf,hl]
 rfl
def BX {es:eI}(h:gI S es (e::l)=true)(hl:es.len<20)(env:Env)(cpos:Pos):
  ((backTo cpos (bm (e::l) env)).all (λx=>!x.1)&&(backToKw cpos (keywordEach [] env)).all (λx=>x.1.isSome)
   &&decide ((e::l).length+([]:List Keyword).length+(if([]:List Keyword).isEmpty then 0 else 1)<30))=true:=by
 have h1:=aI h env cpos;have h2:=kr h;have h3:(backTo cpos (bm (e::l) env)).all (λx=>!x.1)=true:=by
  rw[all_eq_true];intro x hx;rw[any_eq_false]at h1;simpa using h1 x hx
 rw[h3,h2];simp[keywordEach,backToKw]
 omega
end
variable {a:Addr}
section
variable {X:Cx}{G:Gx}{S:Sn}{k:Nat}{E:St->XK}
def gc {x:V}{t:String}(h:tyName x H=some t):fw K H x (.type t):=by
 unfold tyName at h
 split at h
 .cases h;exact .non
 .cases h;exact .bl _
 .cases h;exact .int _
 .cases h;exact .str _
 .split at h
  .rename_i e;cases h;exact .lst e
  .rename_i e;cases h;exact .tup e
  .rename_i e;cases h;exact .dK (.inl e)
  .rename_i e;cases h;exact .dK (.inr ⟨_,e⟩)
  .cases h
 .cases h
def pD {U:St}{Q:VK}{i:Nat}{b:Bool}{cv:Value}(g:Gd X G S k E)(I:Inv X Y U H s)(o:qy G H a i)
  (e:W.kitOne X.K (.ref (G.R.cad i)) cv=some b) (q:Q (.bl b) H):wpAny (model X.prog X.w) X.A (call (.builtin "isinstance") [.ref a,cv]) (EP X Y U Q) X.xe s:=by
 rcases o with⟨ho,dx,fs,ha⟩|⟨ho,dx,fs,fr,ha⟩
 .obtain⟨c,z⟩:=g.tab.oc i ho;exact gg I (x:=.ref a) rfl (.ins ha c z.ha z.hn z.htk z.hm) e λtk=>⟨.bl b,H,I.tok _,rfl,q⟩
 .obtain⟨c,z⟩:=g.tab.xc i ho;exact vj I ha c z e λtk=>⟨.bl b,H,I.tok _,rfl,q⟩
def xA (g:Gd X G S k E)(j:Nat):bU X (.builtin "isinstance") (λvs H Q=>∃ x,vs=[x,.ref (G.R.cad j)]/\cX G (.own j) x H Q):=by
 intro Y s U H xs us Q I r h;obtain⟨x,rfl,h⟩:=h;obtain⟨u,w',rfl,rx,rT⟩:=vals2 r;obtain rfl:w'=Value.ref (G.R.cad j):=rT;unfold cX at h;rcases h with⟨t,b,ht,hb,q⟩|⟨a,i,b,rfl,ho,hb,q⟩
 .exact gg I rx (gc ht) (g.tab.subO t j b hb) λtk=>⟨.bl b,H,I.tok _,rfl,q⟩
 .obtain rfl:u=Value.ref a:=rx;exact pD g I ho (g.tab.sub i j b hb).1 q
def BK (g:Gd X G S k E)(n:String):bU X (.builtin "isinstance") (λvs H Q=>∃ x,vs=[x,.ty n]/\cX G (.ty n) x H Q):=by
 intro Y s U H xs us Q I r h;obtain⟨x,rfl,h⟩:=h;obtain⟨u,w',rfl,rx,rT⟩:=vals2 r;obtain rfl:w'=Value.type n:=rT;unfold cX at h;rcases h with⟨t,b,ht,hb,q⟩|⟨a,i,b,rfl,ho,hb,q⟩
 .exact gg I rx (gc ht) (g.tab.subB t n b hb) λtk=>⟨.bl b,H,I.tok _,rfl,q⟩
 .obtain rfl:u=Value.ref a:=rx;exact pD g I ho (g.tab.subT i n b hb) q
def xi {n:String}(h:gS.contains n=true):bootBuiltins (n:Str)=some (.type n):=by
 have h':n ∈ gS:=by simpa using h
 simp only[gS,lv,not_mem_nil,or_false]at h';rcases h' with rfl|rfl|rfl|rfl|rfl|rfl|rfl<;>decide+kernel
abbrev FK (G:Gx):Cl->V
 | .own c=>.ref (G.R.cad c)
 | .ty n=>.ty n
def CT (g:Gd X G S k E){c:Cl}(h:ye S c e=true):PE X e (tC (FK G c)):=by
 unfold ye at h
 split at h
 .simp only[lw,decide_eq_true_eq]at h;obtain⟨hg,hd⟩:=g.glob h.1;exact kb hg (g.tab.gcl _ _ (g.hT▸h.2)) rfl hd
 .simp only[lw,decide_eq_true_eq]at h;obtain⟨⟨⟨h1,rfl⟩,h3⟩,h4⟩:=h;obtain⟨hg,hd⟩:=g.glob h1;obtain⟨hm,hn⟩:=g.tab.gbl _ (g.hT▸h3);exact xD hg hm (xi h4) rfl hn hd
 .cases h
def Ak (g:Gd X G S k E)(c:Cl):bU X (.builtin "isinstance") (λvs H Q=>∃ x,vs=[x,FK G c]/\cX G c x H Q):=by
 cases c with
 |own j=>exact xA g j
 |ty n=>exact BK g n
def uf (g:Gd X G S k E){i:Nat}{b:Bool}:∀ {cs:List Nat},anyS G i cs=some b->W.kitAny X.K (.ref (G.R.cad i)) ((cs.map λc=>G.R.cad c).map Value.ref)=some b
 | [],h=>h
 |c::cs,h=>by
  have e:∀ b',G.T.sub.lookup (i,c)=some b'->W.kitOne X.K (.ref (G.R.cad i)) (.ref (G.R.cad c))=some b':=λb' hb=>(g.tab.sub i c b' hb).1
  unfold anyS at h;show(match W.kitOne X.K (.ref (G.R.cad i)) (.ref (G.R.cad c)) with|some true=>some true|some false=>W.kitAny X.K (.ref (G.R.cad i)) ((cs.map λc=>G.R.cad c).map Value.ref)|none=>none)=some b
  split at h
  .rename_i q;rw[e _ q];exact h
  .rename_i q;rw[e _ q];exact uf g h
  .cases h
def zD (g:Gd X G S k E){t:String}{b:Bool}:∀ {cs:List Nat},wu G t cs=some b->W.kitAny X.K (.type t) ((cs.map λc=>G.R.cad c).map Value.ref)=some b
 | [],h=>h
 |c::cs,h=>by
  have e:∀ b',G.T.subO.lookup (t,c)=some b'->W.kitOne X.K (.type t) (.ref (G.R.cad c))=some b':=λb' hb=>g.tab.subO t c b' hb
  unfold wu at h;show(match W.kitOne X.K (.type t) (.ref (G.R.cad c)) with|some true=>some true|some false=>W.kitAny X.K (.type t) ((cs.map λc=>G.R.cad c).map Value.ref)|none=>none)=some b
  split at h
  .rename_i q;rw[e _ q];exact h
  .rename_i q;rw[e _ q];exact zD g h
  .cases h
def wF (g:Gd X G S k E)(cs:List Nat):bU X (.builtin "isinstance") (λvs H Q=>∃ x p,vs=[x,.ref p]/\H p=some (.tup ((cs.map λc=>G.R.cad c).map V.ref))/\mF G cs x H Q):=by
 intro Y s U H xs us Q I r h;obtain⟨x,p,rfl,hp,h⟩:=h;obtain⟨u,w',rfl,rx,rT⟩:=vals2 r;obtain rfl:w'=Value.ref p:=rT;unfold mF at h;rcases h with⟨t,b,ht,hb,q⟩|⟨a,i,b,rfl,ho,hb,q⟩
 .obtain⟨P,Z,hP,hx⟩:=ly I rx (gc (K:=X.K) ht);exact kN I Z hP hx hp (zD g hb) λtk=>⟨.bl b,H,I.tok _,rfl,q⟩
 .obtain rfl:u=Value.ref a:=rx;rcases ho with⟨ho,dx,fs,ha⟩|⟨ho,dx,fs,fr,ha⟩
  .obtain⟨c,z⟩:=g.tab.oc i ho;obtain⟨P,Z,hP,hx⟩:=ly I (x:=.ref a) rfl (.ins ha c z.ha z.hn z.htk z.hm);exact kN I Z hP hx hp (uf g hb) λtk=>⟨.bl b,H,I.tok _,rfl,q⟩
  .obtain⟨c,z⟩:=g.tab.xc i ho;obtain⟨ox,odo,J⟩:=ml I ha;exact kN I (mD (ox:=ox) (odo:=odo) c z) J (λz=>nomatch z) hp (uf g hb) λtk=>⟨.bl b,H,I.tok _,rfl,q⟩
def tK (g:Gd X G S k E):∀ {cs:List Nat}{es:List Expr},pV S cs es=true->PA X es (λU H Q=>Q (cs.map λc=>.ref (G.R.cad c)) H)
 | [],[],_=>c4
 | [],_::_,h=>by cases(show false=true from h)
 |_::_,[],h=>by cases(show false=true from h)
 |c::cs,e::es,h=>by
  unfold pV at h
  split at h
  .rename_i h1 h2;cases h1
  .rename_i c' cs' x p es' h1 h2;cases h1;cases h2;simp only[lw,decide_eq_true_eq]at h;obtain⟨hg,hd⟩:=g.glob h.1.1;exact fu (kb (v:=.ref (G.R.cad _)) hg (g.tab.gcl _ _ (g.hT▸h.1.2)) rfl hd) (tK g h.2) rfl
  .cases h
abbrev ux:Bf->Value
 | .len=>.builtin "len"| .list=>.type "list"| .tuple=>.type "tuple"| .int=>.type "int"| .str=>.type "str"| .min=>.builtin "min"| .max=>.builtin "max"| .abs=>.builtin "abs"| .all=>.builtin "all"| .any=>.builtin "any"| .dict=>.type "dict"| .sum=>.builtin "sum"
def xk (b:Bf):bootBuiltins (uF b:Str)=some (ux b):=by cases b<;>decide+kernel
def jY:bU X (.type "dict") (λvs H Q=>∃ p kvs,vs=[.ref p]/\H p=some (.dK kvs)/\∀ l,H l=none->Q (.ref l) (upd H l (.dK kvs))):=by
 intro Y s U H xs us Q I r h;obtain⟨p,kvs,rfl,hp,q⟩:=h;obtain⟨u,rfl,rx⟩:=vals1 r;cases rx;exact vc I (.inl hp) λl s' hl J=>⟨.ref l,_,J,rfl,q l hl⟩
def CC (g:Gd X G S k E)(b:Bf):bU X (ux b) (o6 G b):=by
 intro Y s U H xs us Q I r h;unfold o6 at h;rw[g.hK]at h;cases b with
 |len=>exact vm Y s U H _ us Q I r h
 |list=>
  rcases h with h|⟨hc,p,kvs,rfl,hp,q⟩
  .exact kJ Y s U H _ us Q I r h
  .obtain⟨u,rfl,ru⟩:=vals1 r;cases ru;exact oy (g.cm hc) I hp q
 |tuple=>exact jh Y s U H _ us Q I r h
 |int=>
  rcases h with h|z
  .exact qX Y s U H _ us Q I r h
  .exact z.elim
 |str=>
  rcases h with h|⟨z,rfl,q⟩
  .exact kM Y s U H _ us Q I r h
  .obtain⟨u,rfl,t,rfl⟩:=vals1 r;exact PySem.P.str_of_str ⟨.str z,H,I,⟨_,rfl⟩,q⟩
 |min=>
  rcases h with⟨hc,h|h⟩
  .exact rE (g.cm hc) Y s U H _ us Q I r h
  .exact qE (g.cm hc) Y s U H _ us Q I r h
 |max=>exact h.elim
 |abs=>exact h.elim
 |all=>exact h.elim
 |any=>exact h.elim
 |dict=>exact jY Y s U H _ us Q I r h
 |sum=>exact h.elim
abbrev AB:Lm->String
 | .append=>"list.append"| .extend=>"list.extend"| .insert=>"list.insert"| .pop=>"list.pop"| .clear=>"list.clear"| .reverse=>"list.reverse"| .count=>"list.count"
def qv (m:Lm):Slot "list" (uD m:Str) (AB m):=by
 cases m
 .exact PySem.F.slot_list_append
 .exact PySem.F.slot_list_extend
 .exact PySem.F.slot_list_insert
 .exact PySem.F.slot_list_pop
 .exact PySem.F.slot_list_clear
 .exact PySem.F.slot_list_reverse
 .exact PySem.F.slot_list_count
def zf (m:Lm):typeOf (.builtin (AB m))=pure (.type "method_descriptor"):=by cases m<;>rfl
abbrev Gj (m:Lm):V->List V->Hp->VK->Prop:=λx vs H Q=>∃ p xs,x=.ref p/\H p=some (.lst xs)/\AU m p xs vs H Q
def zm (m:Lm):Eh X (AB m) (Gj m):=by
 intro Y s U H x vs v us Q I rx rv h;obtain⟨p,xs,rfl,hp,h⟩:=h;unfold AU at h;cases m with
 |append=>
  obtain⟨y,rfl,h⟩:=h;exact fQ Y s U H _ _ v us Q I rx rv ⟨p,xs,_,rfl,rfl,hp,Nat.lt_of_le_of_lt h.1 (by decide),h.2⟩
 |extend=>
  obtain⟨b,zs,rfl,hz,hl,q⟩:=h;exact qI Y s U H _ _ v us Q I rx rv ⟨p,_,xs,zs,rfl,rfl,hp,hz,hV nofun,q⟩
 |insert=>
  obtain⟨i,y,rfl,h⟩:=h;exact rR Y s U H _ _ v us Q I rx rv ⟨p,xs,_,_,rfl,rfl,hp,h.1,h.2.1,Nat.lt_of_le_of_lt h.2.2.1 (by decide),h.2.2.2⟩
 |pop=>exact h.elim
 |clear=>exact h.elim
 |reverse=>exact h.elim
 |count=>exact h.elim
def vI {m:Str}{apos pos:Pos}{ta:TE}{t:TA}{pl:Sem Bool}{n:Nat}(g:Gd X G S k E)(hc:G.cm=G.cm)(he:PE X o ta)(ha:PA X es t)
  (hnil:es=[]->∀ U H R,t U H R->R [] H) (hst:∀ e r,es=e::r->bm es X.env=(false,eval e X.env)::bm r X.env) (hpl:∀ e r,es=e::r->(backTo pos (bm r X.env)).any (·.1)=false)
  (ht:eval (.Call (.Attribute o m apos) es [] pos) X.env=(do
   let ov <-eval o X.env
   standAt apos.atName
   let(f,first) <-holding [ov] (getMethod ov m pl)
   callWith pos f first (backTo pos (bm es X.env)) (backToKw pos (keywordEach [] X.env)))):
  PE X (.Call (.Attribute o m apos) es [] pos) (λU H Q=>ta U H λx H1=>∃ p i dx fs f,x=.ref p/\H1 p=some (.ins (G.R.cad i) dx fs)/\fs.lookup m=none/\G.T.me.lookup (i,m)=some f/\
   t U H1 λvs H2=>G.yx f (x::(vs++dflt G f n)) H2 Q (E U)):=by
 intro Y s U H Q I h;refine W.methodCall_KW (pl:=pl) (ar (he Y s U H _ I h) λu s1 ⟨x,H1,I1,rx,a,i,dx,fs,f,ex,ea,l,hf,q⟩=>?_) ht;subst ex;obtain rfl:u=Value.ref a:=rx;obtain⟨c,hm,d,hd⟩:=g.tab.me i m f hf;obtain⟨fd,F,B⟩:=(g.fns f d hd).fact;have hr:bb k X.A:=g.room.mono (Nat.le_succ _);obtain⟨ds,hb,hv⟩:∃ ds,Binds X.K fd d.ps ds/\Vals (dflt G f n) ds:=by
  unfold dflt;rw[hd];exact B _
 refine nK I1 ea c hm l ?_;cases es with
 |nil=>
  refine W.callWith_K0 (first:=[.ref a]) I1.bg hm.kp ?_;exact jT (us:=[.ref a]) (vs:=[.ref a]) F g.hh hr hb hv g.pass I1 (.cons rfl .nil) (hnil rfl _ _ _ q)
 |cons e r=>
  refine W.callWith_K (first:=[.ref a]) (h₀:=X.base) I.ok.mod.kin hm.kp (ar (ha pos Y s1 U H1 _ I1 q) λus s2 ⟨vs,H2,I2,r,q2⟩=>⟨I2.bg,?_⟩) (hst e r rfl) (hpl e r rfl);exact jT (us:=.ref a::us) (vs:=.ref a::vs) F g.hh hr hb hv g.pass I2 (.cons rfl r) q2
end
def yX {α β:Type}{f:α->Option β}:∀ {l:List α}{j:Nat}{y:β},(∀ a ∈ l,(f a).isSome=true)->(l.filterMap f)[j]? =some y->∃ a,l[j]? =some a/\f a=some y
 | [],_,_,_,h=>by simp at h
 |a::l,j,y,hs,h=>by
  obtain⟨b,hb⟩:=Option.isSome_iff_exists.mp (hs a li);rw[filterMap_cons,hb]at h;cases j with
  |zero=>simp at h;exact⟨a,rfl,by rw[hb,h]⟩
  |succ j=>
   simp at h;obtain⟨a',h1,h2⟩:=yX (λa ha=>hs a (dl _ ha)) h;exact⟨a',by simpa using h1,h2⟩
def uc {α β:Type}{f:α->Option β}:∀ {l:List α},(∀ a ∈ l,(f a).isSome=true)->(l.filterMap f).length=l.length
 | [],_=>rfl
 |a::l,hs=>by
  obtain⟨b,hb⟩:=Option.isSome_iff_exists.mp (hs a li);rw[filterMap_cons,hb];simp[uc (λa ha=>hs a (dl _ ha))]
abbrev ik (env:Env):Str×NameKind->List (Str×Addr)->Sem (ForInStep (List (Str×Addr))):=λnk r=>do
 let cs:=r
 if(nk.2 ==NameKind.free)=true then do
  let a <-cellOf env nk.1
  pure (ForInStep.yield ((nk.1,a)::cs))
 else pure (ForInStep.yield cs)
def kc {env:Env}:∀ (names:List (Str×NameKind)) (cs:List (Str×Addr)),(∀ y ∈ names,y.2=.free->∃ c,env.cells.lookup y.1=some c)->
  ∃ cl,(forIn names cs (ik env):Sem _)=pure cl/\(∀ y c,cl.lookup y=some c->cs.lookup y=some c\/env.cells.lookup y=some c)/\(∀ y,(cs.lookup y).isSome=true->(cl.lookup y).isSome=true)/\∀ y ∈ names,y.2=.free->(cl.lookup y.1).isSome=true
 | [],cs,_=>⟨cs,rfl,λy c h=>.inl h,λy h=>h,λy hy=>absurd hy (by simp)⟩
 |(n,kd)::r,cs,h=>by
  by_cases hk:kd=.free
  .subst hk;obtain⟨c,hc⟩:=h (n,.free) li rfl;obtain⟨cl,h1,h2,h3,h4⟩:=kc r ((n,c)::cs) λy hy=>h y (dl _ hy)
   have self:(((n,c)::cs).lookup n).isSome=true:=by simp[lookup_cons]
   refine⟨cl,?_,λy d q=>?_,λy q=>h3 y ?_,λy hy hf=>?_⟩
   .rw[forIn_cons];have e:ik env (n,.free) cs=pure (ForInStep.yield ((n,c)::cs)):=by
     unfold ik;simp only[cellOf,hc]
     rfl
    rw[e];exact h1
   .rcases h2 y d q with q|q
    .rw[lookup_cons]at q
     by_cases e:y=n
     .subst e;simp at q;subst q;exact .inr hc
     .rw[show(y ==n)=false from beq_eq_false_iff_ne.mpr e]at q;exact .inl q
    .exact .inr q
   .rw[lookup_cons];cases(y ==n)<;>simp[q]
   .rcases lv.mp hy with rfl|hy
    .exact h3 _ self
    .exact h4 y hy hf
  .obtain⟨cl,h1,h2,h3,h4⟩:=kc r cs λy hy=>h y (dl _ hy)
   refine⟨cl,?_,h2,h3,λy hy hf=>?_⟩
   .rw[forIn_cons];have e:ik env (n,kd) cs=pure (ForInStep.yield cs):=by
     unfold ik;cases kd<;>first|rfl|exact absurd rfl hk
    rw[e];exact h1
   .rcases lv.mp hy with rfl|hy
    .exact absurd hf hk
    .exact h4 y hy hf
variable {scope:Scope}
def yN {env:Env}(h:∀ y ∈ scope.names,y.2=.free->∃ c,env.cells.lookup y.1=some c):
  ∃ cl,closureFor scope env=pure cl/\(∀ y c,cl.lookup y=some c->env.cells.lookup y=some c)/\∀ y ∈ scope.names,y.2=.free->(cl.lookup y.1).isSome=true:=by
 obtain⟨cl,h1,h2,_,h4⟩:=kc scope.names [] h;refine⟨cl,?_,λy c q=>(h2 y c q).resolve_left (by simp),h4⟩;have e:closureFor scope env=(forIn scope.names [] (ik env) >>= λcs=>pure cs):=by
  unfold closureFor ik
  rfl
 rw[e,h1]
 rfl
variable {xs:List Str}{sel:List Nat}{cl:List (Str×Addr)}
section
variable {X:Cx}{G:Gx}{S:Sn}{k:Nat}{E:St->XK}
def iu (g:Gd X G S k E)(scope:Scope):relabel scope X.env=dy S.sc scope:=by
 unfold relabel dy Env.kindOf;rw[g.sc]
def bj (g:Gd X G S k E)(ok:X.Ok)(h:gk S scope xs sel=true):∃ cl,aM X scope cl xs (sel.filterMap λi=>S.N[i]?) sel:=by
 unfold gk at h;simp only[lw,decide_eq_true_eq,all_eq_true,Bool.or_eq_true,bne_iff_ne,ne_eq]at h;obtain⟨⟨⟨⟨⟨h1,h2⟩,h3⟩,h4⟩,h5⟩,h6⟩:=h;have hs:∀ i ∈ sel,(S.N[i]?).isSome=true:=λi hi=>by
  have:=h5 i hi
  split at this
  .rename_i e;rw[e];rfl
  .cases this
 obtain⟨cl,c1,c2,c3⟩:=yN (env:=X.env) (scope:=scope) λy hy hf=>ok.has y.1 (.inl (by
  show X.env.scope.names.lookup y.1=_;rw[g.sc];exact((h3 y hy).2).resolve_left λz=>z hf))
 refine⟨cl,⟨c1,c2,λy hy=>?_,h1,λy hy=>(h3 y hy).1.1,λy hy hl=>((h3 y hy).1.2).resolve_left λz=>z hl,h4,(uc hs).symm,λj y hj=>?_,h6⟩⟩
 .have:∃ kd,(y,kd) ∈ scope.names/\kd=.free:=by
   rcases hy with hy|hy
   .obtain⟨kd,m,q⟩:=cM hy;rcases q with q|q
    .subst q;exact absurd rfl (h3 _ m).1.1
    .exact⟨kd,m,q.1⟩
   .obtain⟨kd,m,q⟩:=cM hy;rcases q with q|q
    .exact⟨kd,m,q.symm⟩
    .exact nomatch q.2
  obtain⟨kd,m,rfl⟩:=this;exact Option.isSome_iff_exists.mp (c3 _ m rfl)
 .obtain⟨i,hi,hn⟩:=yX hs hj;have q:=h5 i (cr hi);rw[hn]at q;simp only[lw,decide_eq_true_eq]at q;refine⟨i,hi,by rw[g.N];exact hn,by rw[g.sc];exact q.1,by rw[iu g];exact q.2⟩
def Gd.comp (g:Gd X G S k E)(hc:G.cm=.calm)(C:aM X scope cl xs (sel.filterMap λi=>S.N[i]?) sel) (E0:XK) (s:Shared) (H:Hp) (fp:List Addr):
  Gd (dc X scope cl (xs++sel.filterMap λi=>S.N[i]?) s H fp E0) G { S with sc:=dy S.sc scope,N:=xs++sel.filterMap λi=>S.N[i]? } k (λ_=>E0) where
 hK:=g.hK
 hT:=g.hT
 sc:=iu g scope
 N:=rfl
 nd:=C.nd
 pass:=cI pF
 hd:=by
  have h:=g.hd;rw[hc]at h⊢;exact h
 xok:=pF
 xst:=g.xst
 room:=g.room
 un:=g.un
 tab:=g.tab
 fns:=g.fns
 fnsU:=g.fnsU
def Gd.yZ (g:Gd X G S k E)(hc:G.cm=.soft)(C:aM X scope cl xs (sel.filterMap λi=>S.N[i]?) sel) (E0:XK) (s:Shared) (H:Hp) (fp:List Addr):
  Gd (dc X scope cl (xs++sel.filterMap λi=>S.N[i]?) s H fp E0) { G with cm:=.mute } { S with sc:=dy S.sc scope,N:=xs++sel.filterMap λi=>S.N[i]? } k (λ_=>E0) where
 hK:=g.hK
 hT:=g.hT
 sc:=iu g scope
 N:=rfl
 nd:=C.nd
 pass:=cI pF
 hd:=True.intro
 xok:=pF
 xst:=g.xst
 room:=g.room
 un:=g.un
 tab:=g.tab
 fns:=λf d h=>by
  have F:=g.fns f d h;rw[hc]at F;exact F.imp λ_ _ _ _ z=>z.elim
 fnsU:=λz=>by cases z
def mr (env:Env):∀ {is:List Nat}{ts:List Expr},tT S is ts=true->(assignEach ts env).length=is.length/\(assignEach ts env).findIdx? (·.1)=none
 | [],[],_=>⟨rfl,rfl⟩
 | [],_::_,h=>by simp[tT]at h
 |_::_,[],h=>by simp[tT]at h
 |i::is,t::ts,h=>by
  cases t<;>simp[tT]at h
  rename_i x p;obtain⟨h1,h2⟩:=mr env h.2;have e:assignEach (.Name x p::ts) env=(false,assign (.Name x p) env)::assignEach ts env:=rfl;rw[e];refine⟨by simp[h1],?_⟩;rw[List.findIdx?_cons];simp[h2]
def p9 (g:Gd X G S k E):∀ {is:List Nat}{ts:List Expr},tT S is ts=true->BG X ts (gl is)
 | [],[],_=>λY s U H vs us Q I r h=>j7 Y s U H vs us Q I r ⟨length_eq_zero_iff.mp h.1,by
   have:=h.2;have e:vs=[]:=length_eq_zero_iff.mp h.1;subst e;exact this⟩
 | [],_::_,h=>by simp[tT]at h
 |_::_,[],h=>by simp[tT]at h
 |i::is,t::ts,h=>by
  cases t<;>simp[tT]at h
  rename_i x p;have hl:X.env.scope.names.lookup x=some .local:=by rw[g.sc];exact h.1.2
  have h1:PG X (.Name x p) (fM i):=ft (by rw[g.N];exact g.nd) (by rw[g.N];exact h.1.1) (.inl hl) (.inr hl);have h2:=p9 g h.2;intro Y s U H vs us Q I r q;refine fq h1 h2 rfl Y s U H vs us Q I r ?_;obtain⟨hl,q⟩:=q;cases vs with
  |nil=>simp at hl
  |cons v vs=>exact⟨v,vs,rfl,by simpa using hl,q⟩
def yK (g:Gd X G S k E)(hc:G.cm=.calm){n kt:Nat}{ts:List Expr}{pt:Pos}(h:tT S (List.range n) ts=true):PG X (.Tuple ts kt pt) (wx G.R.K n (gl (List.range n))):=by
 obtain⟨e1,e2⟩:=mr X.env h;rw[List.length_range]at e1;rw[g.hK];exact ke (g.cm hc) (p9 g h) e1 e2
def yc {n:Nat}(h:xs.length=n):m9 xs=ss n none:=by
 subst h;unfold m9;rw[List.map_const']
end
set_option maxHeartbeats 2000000
variable {r:List Expr}{p:Pos}{tg:Expr}{U:L2.St}{H1:Hp}{s1:Shared}{R:It->Hp->Prop}{v:Value}{keys:List (Option Expr)}
section
variable {G:Gx}{k:Nat}
def iI {o1 o2:CmpOp}{c:Expr}(h:cp c=true):lastMarks [o1,o2] [b,c]=false:=by
 show behindInMarks o2 c=false;exact ck h _
def nS {o1 o2 o3:CmpOp}{c d:Expr}(h:cp d=true):lastMarks [o1,o2,o3] [b,c,d]=false:=by
 show behindInMarks o3 d=false;exact ck h _
def sX {t:TE}(h:PE X (match r with| []=>b|_=>.BoolOp .And (b::r) p) t):PE X (.BoolOp .And (b::r) p) t:=by
 cases r with
 |nil=>exact vk h
 |cons c r=>exact h
def tX {t:TE}(h:PE X (match r with| []=>b|_=>.BoolOp .Or (b::r) p) t):PE X (.BoolOp .Or (b::r) p) t:=by
 cases r with
 |nil=>exact vk h
 |cons c r=>exact h
def yS {op:BoolOp}(h:PT X (.BoolOp op l p) t):PW X (.BoolOp op l p) t:=λwhole Y s U H Q I q=>by
 have:=h Y s U H Q I q;exact this
def vq (h:PT X (match r with| []=>b|_=>.BoolOp .And (b::r) p) t):PW X (.BoolOp .And (b::r) p) t:=by
 cases r with
 |nil=>exact yz h
 |cons c r=>exact yS h
def vy (h:PT X (match r with| []=>b|_=>.BoolOp .Or (b::r) p) t):PW X (.BoolOp .Or (b::r) p) t:=by
 cases r with
 |nil=>exact Aw h
 |cons c r=>exact yS h
def wa:Eo X (unaryOp .USub) (λx H Q=>match x with| .int i=>Q (.int (-i)) H|_=>False):=by
 intro Y s U H x v Q I r h
 split at h
 .exact(L2.Ag Y s U H _ v Q I r ⟨_,rfl,h⟩)
 .exact h.elim
def qP {c:Bool}{CX:qq}{C f:Addr}{fd:FuncData}{ps:List Str}{sp:Sp}{dvs:List V}{ds:List Value}{E:St->XK}{pos:Pos}(M:Ef X.K C f)(F:cE c X.prog X.w X.K X.mg X.base CX k f fd ps sp)(hh:∀ {Y:GD}{U:St}{H:Hp}{s:Shared}{vs:List V}{Q:VK}{E:XK},Inv X Y U H s->sp vs H Q E->sL c X.A.handled H) (hr:bb (k+1) X.A) (hg:Gl X x) (hm:X.mg x=some (.ref C)) (hb:Binds X.K fd ps ds) (hd:Vals dvs ds) (hx:Passes CX X E)
  (hdb:(x ==("__debug__":Str))=false):PE X (.Call (.Name x p) [] [] pos) (vK C sp dvs E wW):=by
 intro Y s U H Q I h;refine bv (aV I hg hm ?_ hdb);exact W.callWith_K0 I.bg M.kp (jJ (us:=[]) M F hh hr hb hd hx (Nat.zero_le _) I .nil h.2)
def bY.bJ {f:Value->Value->Sem Value}{r:R2}(h:bY X f r):bY X f (λx y H R=>∃ Q,r x y H Q/\∀ z H1,Q z H1->R z H1):=λY s U H x y v u R I rx ry ⟨Q,q,i⟩=>
 ar (h Y s U H x y v u Q I rx ry q) λ_ _ ⟨v,H',J,r,z⟩=>⟨v,H',J,r,i _ _ z⟩
section
open PyProof.Rows
def qG {xs:List V}(I1:Inv X Y U H1 s1)(r:RelV (.ref a) v)(hq:aN X.K H1 a xs)(q:R (Bt X.K a) H1):
  wpAny (model X.prog X.w) X.A (pyIter v) (Ec X Y U tg R) X.xe s1:=by
 cases r;obtain⟨its,rv,p,hz⟩:=I1.list hq;refine wpAny_pyIter_list p.isList ?_;refine⟨s1.heap.objs.size,[s1.heap.objs.size],_,_,H1,rfl,I1.kept (t':=s1.toks) λb o e=>sK _ e,rD a _,⟨_,ul _ rfl,rfl,rfl⟩,λb hb=>?_,q⟩;have e:b=s1.heap.objs.size:=by simpa using hb
 subst e;exact I1.nQ (pi _) (I1.hok.fresh (pi _))
def tL {xs:List V}(I1:Inv X Y U H1 s1)(r:RelV (.ref a) v)(hq:ba X.K H1 a xs)(q:R (sG X.K a) H1):
  wpAny (model X.prog X.w) X.A (pyIter v) (Ec X Y U tg R) X.xe s1:=by
 cases r;obtain⟨its,rv,p,hz⟩:=I1.tuple hq;refine wpAny_pyIter_tuple (show s1.heap.IsTuple a its.toArray from p) ?_;refine⟨s1.heap.objs.size,[s1.heap.objs.size],_,_,H1,rfl,I1.kept (t':=s1.toks) λb o e=>sK _ e,bW a _,⟨_,ul _ rfl,rfl,rfl⟩,λb hb=>?_,q⟩;have e:b=s1.heap.objs.size:=by simpa using hb
 subst e;exact I1.nQ (pi _) (I1.hok.fresh (pi _))
def jI {xs:List V}(I1:Inv X Y U H1 s1)(r:RelV (.ref a) v)(hq:ba X.K H1 a xs)(q:R (sG X.K a) H1):
  wpAny (model X.prog X.w) X.A (pyIter v) (Bk eh X Y U tg R) X.xe s1:=by
 cases r;obtain⟨its,rv,p,hz⟩:=I1.tuple hq;refine wpAny_pyIter_tuple (show s1.heap.IsTuple a its.toArray from p) ?_;refine⟨s1.heap.objs.size,[s1.heap.objs.size],_,_,H1,rfl,I1.kept (t':=s1.toks) λb o e=>sK _ e,lT a _,⟨_,ul _ rfl,rfl,rfl⟩,λb hb=>?_,q⟩;have e:b=s1.heap.objs.size:=by simpa using hb
 subst e;exact I1.nQ (pi _) (I1.hok.fresh (pi _))
end
def BN {x:V}{Q:Bool->Hp->Prop}(h:Be K x H Q):∃ k,xa K x H k/\Q k H:=by
 unfold Be at h
 split at h
 .exact⟨_,rfl,h⟩
 .exact h
abbrev D4:List Str->List V->List (V×V)
 |k::ks,x::xs=>(.str k,x)::D4 ks xs
 |_,_=>[]
def vx:∀ {ks:List Str}{xs:List V},D4 ks xs=(B8 ks xs).map (λkv=>(kV kv.1,kv.2))
 | [],_=>rfl
 |_::_,[]=>rfl
 |k::ks,x::xs=>by
  show(V.str k,x)::D4 ks xs=(kV (.inr k),x)::(B8 ks xs).map _;rw[vx]
  rfl
def qz:∀ {ks:List Str}{xs:List V},(B8 ks xs).length<=ks.length
 | [],_=>pi _
 |_::_,[]=>Nat.zero_le _
 |k::ks,x::xs=>Nat.succ_le_succ qz
def gh {k:Str}{ks:List Str}(h:kH (k::ks) keys=true):∃ j p r,keys=some (.Constant (.str k) j p)::r/\kH ks r=true:=by
 unfold kH at h
 split at h
 .rename_i e;cases e
 .rename_i k' ks' x j p r e
  injection e with e1 e2
  subst e1 e2;simp only[lw,decide_eq_true_eq]at h;obtain⟨rfl,h⟩:=h;exact⟨_,_,_,rfl,h⟩
 .cases h
def g6 (h:kH [] keys=true):keys=[]:=by
 cases keys with
 |nil=>rfl
 |cons a r=>cases(show false=true from h)
def mG:∀ {ks:List Str}{keys:List (Option Expr)},kH ks keys=true->keys.length=ks.length
 | [],keys,h=>by rw[g6 h];rfl
 |k::ks,keys,h=>by
  obtain⟨j,p,r,rfl,h2⟩:=gh h;rw[length_cons,length_cons,mG h2]
def mN:∀ {ks:List Str}{keys:List (Option Expr)},kH ks keys=true->keys.all (·.isSome)=true
 | [],keys,h=>by rw[g6 h];rfl
 |k::ks,keys,h=>by
  obtain⟨j,p,r,rfl,h2⟩:=gh h;rw[all_cons,mN h2]
  rfl
def uo {S:Sn}:∀ {x:eI}{e:List Expr},gI S x e=true->e.length=x.len
 | .nil,[],_=>rfl
 | .nil,_::_,h=>by cases(show false=true from h)
 | .cons x xs,[],h=>by cases(show false=true from h)
 | .cons x xs,e::es,h=>by
  have h:(mE S x e&&notStar e&&gI S xs es)=true:=h;simp only[lw]at h;exact congrArg Nat.succ (uo h.2)
mutual
theorem sE:∀ (x:Ex){G:Gx}{X:Cx}{S:Sn}{E:St->XK},Gd X G S k E->∀ {e:Expr},mE S x e=true->PE X e (λU H Q=>wE G x U H Q (E U))
 | .v i,G,X,S,E,g,e,h=>by
  sleep 1
  simp only[lw,decide_eq_true_eq]at h;obtain⟨h1,h2⟩:=h;obtain⟨v1,v2,v3⟩:=g.Dp h2;refine PE.imp (AA (i:=i) (by rw[g.N];exact h1) v1 v2 v3) λU H Q q=>?_
  conv at q=>whnf
  split at q
  .rename_i e;exact⟨_,e,q⟩
  .exact q.elim
 | .int i,G,X,S,E,g,e,h=>by
  sleep 2
  simp only[decide_eq_true_eq]at h;subst h;exact B4
 | .bl i,G,X,S,E,g,e,h=>by
  sleep 2
  simp only[decide_eq_true_eq]at h;subst h;exact C9
 | .non,G,X,S,E,g,e,h=>by
  sleep 2
  exact A7
 | .str i,G,X,S,E,g,e,h=>by
  sleep 2
  simp only[decide_eq_true_eq]at h;subst h;exact uU
 | .gl x,G,X,S,E,g,e,h=>by
  sleep 1
  simp only[lw,decide_eq_true_eq]at h;obtain⟨rfl,h2⟩:=h;obtain⟨hg,hd⟩:=g.glob h2;intro Y s U H Q I q
  conv at q=>whnf
  split at q
  .rename_i v e;obtain⟨u,hm,r⟩:=g.tab.gl _ v e;exact kb hg hm r hd Y s U H Q I q
  .exact q.elim
 | .bin op a b,G,X,S,E,g,e,h=>by
  sleep 1
  simp only[lw,decide_eq_true_eq]at h;obtain⟨⟨rfl,ha⟩,hb⟩:=h;exact Co (g.bin op) (sE a g ha) (sE b g hb)
 | .neg a,G,X,S,E,g,e,h=>by
  sleep 2
  exact Cz wa (sE a g h)
 | .not a,G,X,S,E,g,e,h=>by
  sleep 2
  refine PE.imp (BL (PE.bJ (sE a g h))) λU H Q q=>⟨_,q,λx H1 z=>?_⟩
  split at z
  .exact⟨_,rfl,z⟩
  .exact z.elim
 | .and a b,G,X,S,E,g,e,h=>by
  sleep 3
  simp only[lw]at h;refine PE.imp (BU (PE.bJ (sE a g h.1)) (sX (sE b g h.2))) λU H Q q=>⟨_,q,λx H1 z=>?_⟩
  split at z
  .rw[cq]at z;exact⟨_,rfl,z⟩
  .exact z.elim
 | .or a b,G,X,S,E,g,e,h=>by
  sleep 3
  simp only[lw]at h;refine PE.imp (DE (PE.bJ (sE a g h.1)) (tX (sE b g h.2))) λU H Q q=>⟨_,q,λx H1 z=>?_⟩
  split at z
  .rw[cq]at z;exact⟨_,rfl,z⟩
  .exact z.elim
 | .cmp op a b,G,X,S,E,g,e,h=>by
  sleep 3
  simp only[lw,decide_eq_true_eq]at h;obtain⟨⟨⟨rfl,ha⟩,hb⟩,hn⟩:=h;exact w4 (g.cmp op) (sE a g ha) (sE b g hb) (ck hn _)
 | .cmp2 o1 o2 a b c,G,X,S,E,g,e,h=>by
  sleep 3
  simp only[lw,decide_eq_true_eq]at h;obtain⟨⟨⟨⟨⟨rfl,rfl⟩,ha⟩,hb⟩,hc⟩,hn⟩:=h;refine PE.imp (sP (bY.bJ (g.cmp o1)) (g.cmp o2) (PE.bJ (sE a g ha)) (PE.bJ (sE b g hb)) (sE c g hc) (iI hn)) λU H Q q=>⟨_,q,λx H1 q1=>⟨_,q1,λy H2 q2=>⟨_,q2,λz H3 q3=>?_⟩⟩⟩
  split at q3
  .rw[cq]at q3;exact⟨_,rfl,q3⟩
  .exact q3.elim
 | .cmp3 o1 o2 o3 a b c d,G,X,S,E,g,e,h=>by
  sleep 3
  simp only[lw,decide_eq_true_eq]at h;obtain⟨⟨⟨⟨⟨⟨⟨rfl,rfl⟩,rfl⟩,ha⟩,hb⟩,hc⟩,hd⟩,hn⟩:=h;refine PE.imp (rC (bY.bJ (g.cmp o1)) (bY.bJ (g.cmp o2)) (g.cmp o3) (PE.bJ (sE a g ha)) (PE.bJ (sE b g hb)) (PE.bJ (sE c g hc)) (sE d g hd) (nS hn)) λU H Q q=>⟨_,q,λx H1 q1=>⟨_,q1,λy H2 q2=>⟨_,q2,λz H3 q3=>?_⟩⟩⟩
  split at q3
  .refine⟨_,rfl,?_⟩;rw[cq]at q3
   split at q3
   .rename_i hk;rw[if_pos hk];refine⟨_,q3,λw H4 q4=>⟨_,q4,λz' H5 q5=>?_⟩⟩
    split at q5
    .rw[cq]at q5;exact⟨_,rfl,q5⟩
    .exact q5.elim
   .rename_i hk;rw[if_neg hk];exact q3
  .exact q3.elim
 | .ife c a b,G,X,S,E,g,e,h=>by
  sleep 1
  simp only[lw]at h;exact PE.imp (sQ (PT.bJ (sT c g h.1.1)) (sE a g h.1.2) (sE b g h.2)) λU H Q q=>⟨_,q,λk H1 z=>by rwa [cq]at z⟩
 | .tup es,G,X,S,E,g,e,h=>by
  sleep 1
  refine PE.imp (tB (PA.bJ (sC es g h))) λU H Q q=>⟨_,q,λx H1 z=>by unfold iP at z;exact⟨hV (by have:=z.1;omega),z.2⟩⟩
 | .lst es,G,X,S,E,g,e,h=>by
  sleep 1
  refine PE.imp (Bm (PA.bJ (sC es g h))) λU H Q q=>⟨_,q,λx H1 z=>by unfold wA at z;exact⟨hV (by have:=z.1;omega),z.2⟩⟩
 | .ix a i,G,X,S,E,g,e,h=>by
  sleep 1
  simp only[lw]at h;have hr:C5 X (nh G.R.K):=g.hK▸nU g.un;exact Di hr (sE a g h.1.1) (sE i g h.1.2) (oo h.2)
 | .sl a lo hi,G,X,S,E,g,e,h=>by
  sleep 3
  simp only[lw]at h;have hr:Ee X (y9 G.R.K):=g.hK▸BY;exact vL hr (sE a g h.1.1) (sO lo g h.1.2) (sO hi g h.2)
 | .fld a f,G,X,S,E,g,e,h=>by
  sleep 1
  simp only[lw,decide_eq_true_eq]at h;obtain⟨⟨ha,rfl⟩,hn⟩:=h;intro Y s U H Q I q;have q':wE G a U H (λx H1=>oH G f x H1 Q) (E U):=q;refine yd (cj hn _ _ _) (ar (sE a g ha Y s U H _ I q') λu s1 ⟨x,H1,I1,rx,qf⟩=>?_);unfold oH at qf;obtain⟨a,i,fs,v,ex,ea,hna,l,q⟩:=qf;subst ex;obtain rfl:u=Value.ref a:=rx;have n:=g.tab.na i f hna;rcases ea with⟨ho,dx,ea⟩|⟨ho,dx,fr,ea⟩
  .exact ow I1 ea (g.tab.oc i ho).1 n l λu' s' J rv=>⟨v,H1,J,rv,q⟩
  .exact sj I1 ea (g.tab.xc i ho).1 n l λu' s' J rv=>⟨v,H1,J,rv,q⟩
 | .call f es,G,X,S,E,g,e,h=>by
  sleep 3
  rename_i es' pos _ xn p1 _;simp only[lw,decide_eq_true_eq]at h;obtain⟨⟨h1,h2⟩,h3⟩:=h;obtain⟨hg,hdb⟩:=g.glob h1;obtain⟨hm,hk,d,hd⟩:=g.tab.gfn _ _ (g.hT▸h2);obtain⟨fd,F,B⟩:=(g.fns f d hd).fact;obtain⟨ds,hb,hv⟩:∃ ds,Binds X.K fd d.ps ds/\Vals (dflt G f es.len) ds:=by
   unfold dflt;rw[hd];exact B _
  intro Y s U H Q I q;obtain⟨hc,q⟩:=(show G.cm=G.cm/\wEs G es U H (λvs H1=>G.yx f (vs++dflt G f es.len) H1 Q (E U)) (E U) from q);have hr:bb k X.A:=g.room.mono (Nat.le_succ _);cases es' with
  |nil=>
   cases es with
   |nil=>exact sU F g.hh hr hg hm hk hb hv g.pass hdb Y s U H Q I q
   |cons _ _=>cases(show false=true from h3)
  |cons e0 er=>
   have PAs:=sC es g h3;obtain⟨ns,x0,xr,rfl,h4⟩:=a7 h3;exact wY F g.hh hr hg hm hk hb hv g.pass PAs hdb (ab ns) (aI h4 _ _) Y s U H Q I q
 | .meth a m es,G,X,S,E,g,e,h=>by
  sleep 3
  rename_i es' pos _ a' m' apos _;simp only[lw,decide_eq_true_eq]at h;obtain⟨⟨⟨⟨⟨ha,rfl⟩,h3⟩,h4⟩,h5⟩,h6⟩:=h;intro Y s U H Q I q;obtain⟨hc,q⟩:=(show G.cm=G.cm/\_ from q);refine vI (n:=es.len+1) g hc (sE a g ha) (sC es g h3) (λz U H R hr=>?_) (λe r z=>?_) (λe r z=>?_) (jF h4 (p6 h3 h6 _ _) h5) Y s U H Q I q
  .subst z;cases es with
   |nil=>exact hr
   |cons _ _=>cases(show false=true from h3)
  .subst z;exact ab (a7 h3).1
  .subst z;have PAs:=sC es g h3;obtain⟨ns,x0,xr,rfl,h4⟩:=a7 h3;exact aI h4 _ _
 | .lm m a es,G,X,S,E,g,e,h=>by
  sleep 3
  rename_i es' pos _ a' m' apos _;simp only[lw,decide_eq_true_eq]at h;obtain⟨⟨⟨⟨⟨ha,rfl⟩,h3⟩,h4⟩,h5⟩,h6⟩:=h;cases es' with
  |nil=>
   cases es with
   |nil=>exact PE.imp (AO PySem.F.plainAttrs_list (qv m) (zf m) (zm m) (PE.bJ (sE a g ha)) (cj h4 _ _ _) h5) λU H Q q=>⟨_,q,λx H1 z=>by
     obtain⟨p,xs0,ex,hp,q⟩:=z;subst ex;obtain⟨xs,h1,h2⟩:=q;exact⟨.inl ⟨rfl,xs0,aN.of hp⟩,p,xs,rfl,h1,h2⟩⟩
   |cons _ _=>cases(show false=true from h3)
  |cons e0 er=>
   have PAs:=sC es g h3;obtain⟨ns,x0,xr,rfl,h7⟩:=a7 h3;exact PE.imp (Cy PySem.F.plainAttrs_list (qv m) (zf m) (zm m) (PE.bJ (sE a g ha)) (PA.bJ PAs) (cj h4 _ _ _) (BX h3 h6 _ _) h5 (ab ns) (aI h7 _ _)) λU H Q q=>⟨_,q,λx H1 z=>by
     obtain⟨p,xs0,ex,hp,q⟩:=z;subst ex;exact⟨.inl ⟨rfl,xs0,aN.of hp⟩,_,q,λvs H2 ⟨xs,h1,h2⟩=>⟨p,xs,rfl,h1,h2⟩⟩⟩
 | .dget a k d,G,X,S,E,g,e,h=>by cases(show false=true from h)
 | .rev a b,G,X,S,E,g,e,h=>by cases(show false=true from h)
 | .dupd a b,G,X,S,E,g,e,h=>by cases(show false=true from h)
 | .lix a b,G,X,S,E,g,e,h=>by cases(show false=true from h)
 | .make c es,G,X,S,E,g,e,h=>by
  sleep 3
  rename_i es' pos _ xn p1 _;simp only[lw,decide_eq_true_eq]at h;obtain⟨⟨h1,h2⟩,h3⟩:=h;obtain⟨hg,hdb⟩:=g.glob h1;have hm:=g.tab.gcl _ _ (g.hT▸h2);intro Y s U H Q I q
  conv at q=>whnf
  obtain⟨hc,q⟩:=q
  split at q
  .obtain⟨h0,q⟩:=q;cases es' with
   |nil=>
    cases es with
    |nil=>exact absurd q.1 (by decide)
    |cons _ _=>cases(show false=true from h3)
   |cons e0 er=>
    have PAs:=sC es g h3;obtain⟨ns,x0,xr,rfl,h4⟩:=a7 h3;exact tH (g.tab.ini0 c h0) hg hm PAs hdb (ab ns) (aI h4 _ _) Y s U H Q I q
  .rename_i f hf;obtain⟨⟨d,hd⟩,hmk⟩:=g.tab.ini c f hf;obtain⟨fd,F,B⟩:=(g.fns f d hd).fact;obtain⟨ds,hb,hv⟩:∃ ds,Binds X.K fd d.ps ds/\Vals (dflt G f (es.len+1)) ds:=by
    unfold dflt;rw[hd];exact B _
   have hr:=g.room
   split at q
   .rename_i hx;rw[if_pos hx]at hmk;cases es' with
    |nil=>
     cases es with
     |nil=>exact qP hmk F g.hh hr hg hm hb hv g.pass hdb Y s U H Q I q
     |cons _ _=>cases(show false=true from h3)
    |cons e0 er=>
     have PAs:=sC es g h3;obtain⟨ns,x0,xr,rfl,h4⟩:=a7 h3;exact tN hmk F g.hh hr hg hm hb hv g.pass PAs hdb (ab ns) (aI h4 _ _) Y s U H Q I q
   .rename_i hx;rw[if_neg hx]at hmk;cases es' with
    |nil=>
     cases es with
     |nil=>exact tP hmk F g.hh hr hg hm hb hv g.pass hdb Y s U H Q I q
     |cons _ _=>cases(show false=true from h3)
    |cons e0 er=>
     have PAs:=sC es g h3;obtain⟨ns,x0,xr,rfl,h4⟩:=a7 h3;exact yH hmk F g.hh hr hg hm hb hv g.pass PAs hdb (ab ns) (aI h4 _ _) Y s U H Q I q
 | .bini es,G,X,S,E,g,e,h=>by
  sleep 4
  rename_i es' pos _ mm p2 _ xn p1 _;simp only[lw,decide_eq_true_eq]at h;obtain⟨⟨⟨⟨⟨h1,rfl⟩,h2⟩,h3⟩,h4⟩,h5⟩:=h;obtain⟨hg,hdb⟩:=g.glob h1;obtain⟨B,hm,hB⟩:=g.tab.gbi _ (g.hT▸h2);cases es' with
  |nil=>
   cases es with
   |nil=>cases h4
   |cons _ _=>cases(show false=true from h3)
  |cons e0 er=>
   have PAs:=sC es g h3;obtain⟨ns,x0,xr,rfl,h7⟩:=a7 h3;refine PE.imp (Ac hB hg hm (PA.bJ PAs) hdb (ab ns) (aI h7 _ _) (jF (o:=.Name _ _) rfl (p6 h3 (by rw[h4];decide) _ _) h5)) λU H Q q=>⟨_,q,λvs H1 z=>?_⟩
   obtain⟨a,i,dx,fs,fr,v,ev,ea,hi,q⟩:=z;exact⟨a,_,dx,fs,fr,v,ev,ea,(g.tab.xc i hi).1,q⟩
 | .cini c es,G,X,S,E,g,e,h=>by cases(show false=true from h)
 | .bf b es,G,X,S,E,g,e,h=>by
  sleep 3
  rename_i es' pos _ xn p1 _;simp only[lw,decide_eq_true_eq]at h;obtain⟨⟨⟨⟨h1,rfl⟩,h2⟩,h3⟩,h4⟩:=h;obtain⟨hg,hdb⟩:=g.glob h1;obtain⟨hm,hn⟩:=g.tab.gbl _ (g.hT▸h2);cases es' with
  |nil=>
   cases es with
   |nil=>exact absurd h4 (by decide)
   |cons _ _=>cases(show false=true from h3)
  |cons e0 er=>
   have PAs:=sC es g h3;obtain⟨ns,x0,xr,rfl,h7⟩:=a7 h3;have hb:=xk b;have hk:=CC g b;have key:∀ {v:Value},ux b=v->(∃ i,v=.builtin i)\/(∃ i,v=.type i):=by
    intro v hv;subst hv;cases b<;>first|exact .inl ⟨_,rfl⟩|exact .inr ⟨_,rfl⟩
   rcases key rfl with⟨i,hi⟩|⟨i,hi⟩
   .rw[hi]at hb hk;exact iQ hk hg hm hb PAs hn hdb (ab ns) (aI h7 _ _)
   .rw[hi]at hb hk;exact qY hk hg hm hb PAs hn hdb (ab ns) (aI h7 _ _)
 | .isi a c,G,X,S,E,g,e,h=>by
  sleep 4
  rename_i pos _ xn p1 _ _ a' c';simp only[lw,decide_eq_true_eq]at h;obtain⟨⟨⟨⟨h1,rfl⟩,h2⟩,h3⟩,h4⟩:=h;obtain⟨hg,hdb⟩:=g.glob h1;obtain⟨hm,hn⟩:=g.tab.gbl _ (g.hT▸h2);have n1:notStar a'=true:=by
   cases a'<;>first|rfl|(cases a<;>cases(show false=true from h3))
  have n2:notStar c'=true:=by
   cases c'<;>first|rfl|(cases c<;>simp[ye]at h4)
  refine PE.imp (iQ (Ak g c) hg hm tW (fu (PE.bJ (sE a g h3)) (fu (CT g h4) c4 n2) n1) hn hdb (ab n1) ?_) λU H Q q=>⟨_,q,λx H1 z=>⟨x,rfl,z⟩⟩
  rw[ab n2]
  rfl
 | .lc elt sel it,G,X,S,E,g,e,h=>by
  sleep 2
  split at h
  iterate 3 (split at h;rotate_left;cases h)
  simp only[lw]at h;obtain⟨⟨⟨h1,h2⟩,h3⟩,h4⟩:=h;intro Y s U H Q I q;rcases ud (show D8 G.cm (wI G it U H (λJ H1=>nV (λσ' H' Q'=>wE G elt σ' H' Q' (E U)) J (none::eC U sel) H1 Q) (E U)) (Fv G it U H (λJ H1=>nV (λσ' H' Q'=>wE { G with cm:=.mute } elt σ' H' Q' (E U)) J (none::eC U sel) H1 Q) (E U)) from q) with⟨hc,q⟩|⟨hc,q⟩
  .rw[kZ]at q;obtain⟨cl,C⟩:=bj g I.ok h1;exact mz (ok:=Calm) (λ_=>g.cm hc) (g.cx U) C (sI it g h2) (λs H fp=>sE elt (g.comp hc C (E U) s H fp) h3) (aR h4 _) Y s H Q I q
  .cases it with
   |seq a=>
    rw[kZ]at q;obtain⟨cl,C⟩:=bj g I.ok h1;have sx:eh X:=by
     have hd:=g.hd;rw[hc]at hd;exact hd
    refine mz (ok:=eh) (wi:=λU H R=>wE G a U H (λx H1=>match x with| .ref p=>(∃ xs,ba G.R.K H1 p xs)/\R (sG G.R.K p) H1|_=>False) (E U)) (λI'=>sx.now I') (g.cx U) C (λY s U H R I q=>?_) (λs H fp=>sE elt (g.yZ hc C (E U) s H fp) h3) (aR h4 _) Y s H Q I q;have q':wE G a U H (λx H1=>match x with| .ref p=>(∃ xs,ba G.R.K H1 p xs)/\R (sG G.R.K p) H1|_=>False) (E U):=q;rw[g.hK]at q';refine ar (sE a g h2 Y s U H _ I q') λv s1 ⟨x,H1,I1,r1,z⟩=>?_
    dsimp only at z
    split at z
    .obtain⟨⟨xs,hx⟩,z⟩:=z;exact jI I1 r1 hx z
    .exact z.elim
   |_=>exact q.elim
 | .lci elt c sel it,G,X,S,E,g,e,h=>by cases(show false=true from h)
 | .lct elt n sel it,G,X,S,E,g,e,h=>by cases(show false=true from h)
 | .lcu elt c n sel it,G,X,S,E,g,e,h=>by cases(show false=true from h)
 | .dnew,G,X,S,E,g,e,h=>by
  sleep 3
  refine PE.imp uh λU H Q q=>?_
  have q':newD H Q:=q;unfold newD at q';exact q'
 | .sm m a b,G,X,S,E,g,e,h=>by cases(show false=true from h)
 | .up a,G,X,S,E,g,e,h=>by cases(show false=true from h)
 | .isiT a cs,G,X,S,E,g,e,h=>by
  sleep 5
  rename_i pos _ xn p1 _ _ a' _ es' kk pos2;simp only[lw,decide_eq_true_eq]at h;obtain⟨⟨⟨⟨⟨h1,rfl⟩,h2⟩,h3⟩,h4⟩,h5⟩:=h;obtain⟨hg,hdb⟩:=g.glob h1;obtain⟨hm,hn⟩:=g.tab.gbl _ (g.hT▸h2);have n1:notStar a'=true:=by
   cases a'<;>first|rfl|(cases a<;>cases(show false=true from h3))
  refine PE.imp (iQ (wF g cs) hg hm tW (fu (PE.bJ (sE a g h3)) (fu (tB (tK g h4)) c4 rfl) n1) hn hdb (ab n1) ?_) λU H Q q=>⟨_,q,λx H1 z=>⟨?_,λp hp=>⟨x,p,rfl,?_,z p hp⟩⟩⟩
  .rw[ab (show notStar (.Tuple es' kk pos2)=true from rfl)]
   rfl
  .exact hV (by rw[ce];omega)
  .rw[aj,List.map_map]
   rfl
 | .mk0 c,G,X,S,E,g,e,h=>by
  sleep 4
  simp only[lw,decide_eq_true_eq]at h;obtain⟨⟨h1,h2⟩,h3⟩:=h;obtain⟨hg,hdb⟩:=g.glob h1;refine PE.imp (tE (g.tab.inip c (g.hT▸h3)) hg (g.tab.gcl _ _ (g.hT▸h2)) hdb) λU H Q q=>?_
  have q':vE (G.R.cad c) H Q:=q;unfold vE at q';exact q'
 | .vals tp a,G,X,S,E,g,e,h=>by cases(show false=true from h)
 | .disp ks es,G,X,S,E,g,e,h=>by
  sleep 1
  simp only[lw,decide_eq_true_eq]at h;obtain⟨⟨⟨⟨h1,h2⟩,h3⟩,h4⟩,h5⟩:=h;intro Y s U H Q I q;have hk:=mG h1;have hv:=uo h2;refine yu (FT es g h1 h2 h3) (mN h1) nofun (λz=>by rw[z]at hk;simp at hk;omega) nofun Y s U H Q I λp hp=>?_
  refine⟨_,q p hp,λxs H2 hl z=>?_⟩;unfold pM at z;exact⟨z.1,B8 ks xs,vx,by have:=qz (ks:=ks) (xs:=xs);omega,z.2⟩
 | .dzip a b,G,X,S,E,g,e,h=>by
  sleep 8
  simp only[lw,decide_eq_true_eq]at h;obtain⟨⟨⟨⟨⟨⟨⟨⟨⟨h1,rfl⟩,h2⟩,h3⟩,rfl⟩,h4⟩,h5⟩,h6⟩,n1⟩,n2⟩:=h;obtain⟨hg,hdb⟩:=g.glob h1;obtain⟨hm,hn⟩:=g.tab.gbl _ (g.hT▸h2);obtain⟨hg',hdb'⟩:=g.glob h3;obtain⟨hm',hn'⟩:=g.tab.gbl _ (g.hT▸h4);intro Y s U H Q I q;obtain⟨hc,q⟩:=(show G.cm=.calm/\wE G a U H (λx H1=>wE G b U H1 (λy H2=>CV G.R.K x y H2 Q) (E U)) (E U) from q);refine vZ (g.cm hc) hg hm hg' hm' (fu (PE.bJ (sE a g h5)) (fu (PE.bJ (sE b g h6)) c4 n2) n1) (ab n1) (by rw[ab n2];rfl) Y s U H Q I ⟨_,q,λx H1 z=>⟨_,z,λy H2 z=>?_⟩⟩;unfold CV at z;exact⟨_,_,rfl,g.hK▸z⟩
termination_by structural x=>x
theorem sI:∀ (x:xI){G:Gx}{X:Cx}{S:Sn}{E:St->XK},Gd X G S k E->∀ {t e:Expr},mI S x t e=true->PI X t e (λU H R=>wI G x U H R (E U))
 | .rng1 a,G,X,S,E,g,t,e,h=>by
  sleep 4
  simp only[lw,decide_eq_true_eq]at h;obtain⟨⟨⟨⟨h1,rfl⟩,h2⟩,h3⟩,n1⟩:=h;obtain⟨hg,hdb⟩:=g.glob h1;obtain⟨hm,hn⟩:=g.tab.gbl _ (g.hT▸h2);intro Y s U H R I q;refine qV hg hm (fu (PE.bJ (sE a g h3)) c4 n1) (ab n1) Y s U H R I ⟨_,q,λx H1 z=>?_⟩
  split at z
  .exact⟨_,rfl,z.1,z.2.1,z.2.2⟩
  .exact z.elim
 | .rng2 a b,G,X,S,E,g,t,e,h=>by
  sleep 4
  simp only[lw,decide_eq_true_eq]at h;obtain⟨⟨⟨⟨⟨⟨h1,rfl⟩,h2⟩,h3⟩,h4⟩,n1⟩,n2⟩:=h;obtain⟨hg,hdb⟩:=g.glob h1;obtain⟨hm,hn⟩:=g.tab.gbl _ (g.hT▸h2);intro Y s U H R I q;refine sA hg hm (fu (PE.bJ (sE a g h3)) (fu (PE.bJ (sE b g h4)) c4 n2) n1) (by rw[ab n1,ab n2];rfl) (by rw[ab n2];rfl) Y s U H R I ⟨_,q,λx H1 z=>⟨_,z,λy H2 z=>?_⟩⟩
  split at z
  .exact⟨_,_,rfl,z.1,z.2⟩
  .exact z.elim
 | .rng3 a b c,G,X,S,E,g,t,e,h=>by cases(show false=true from h)
 | .enm a,G,X,S,E,g,t,e,h=>by
  sleep 4
  simp only[lw,decide_eq_true_eq]at h;obtain⟨⟨⟨⟨⟨h1,rfl⟩,h2⟩,h3⟩,n1⟩,h5⟩:=h;obtain⟨hg,hdb⟩:=g.glob h1;obtain⟨hm,hn⟩:=g.tab.gbl _ (g.hT▸h2)
  split at h5
  .intro Y s U H R I q;refine vV hg hm (fu (PE.bJ (sE a g h3)) c4 n1) (ab n1) Y s U H R I ⟨_,q,λx H1 z=>?_⟩
   split at z
   .unfold xO at z;exact⟨_,rfl,z.1,z.2⟩
   .exact z.elim
  .cases h5
 | .enf a,G,X,S,E,g,t,e,h=>by cases(show false=true from h)
 | .seq a,G,X,S,E,g,t,e,h=>by
  conv at h=>lhs;whnf
  intro Y s U H R I q;have q':wE G a U H (λx H1=>match x with| .ref p=>oB G.R.K p H1 R| .str z=>R (B9 z) H1|_=>False) (E U):=q;rw[g.hK]at q';refine ar (sE a g h Y s U H _ I q') λv s1 ⟨x,H1,I1,r1,z⟩=>?_
  dsimp only at z
  split at z
  .unfold oB at z;rcases z with⟨⟨xs,hx⟩,z⟩|⟨⟨xs,hx⟩,z⟩|z
   .exact qG I1 r1 hx z
   .exact tL I1 r1 hx z
   .exact z.elim
  .exact uJ I1 r1 z
  .exact z.elim
 | .zip a b,G,X,S,E,g,t,e,h=>by
  sleep 4
  simp only[lw,decide_eq_true_eq]at h;obtain⟨⟨⟨⟨⟨⟨⟨h1,rfl⟩,h2⟩,h3⟩,h4⟩,n1⟩,n2⟩,h5⟩:=h;obtain⟨hg,hdb⟩:=g.glob h1;obtain⟨hm,hn⟩:=g.tab.gbl _ (g.hT▸h2)
  split at h5
  .intro Y s U H R I q;refine AD hg hm (fu (PE.bJ (sE a g h3)) (fu (PE.bJ (sE b g h4)) c4 n2) n1) (ab n1) (by rw[ab n2];rfl) Y s U H R I ⟨_,q,λx H1 z=>⟨_,z,λy H2 z=>?_⟩⟩;unfold xF at z;exact⟨_,_,rfl,g.hK▸z⟩
  .cases h5
 | .zip3 a b c,G,X,S,E,g,t,e,h=>by cases(show false=true from h)
termination_by structural x=>x
theorem sO:∀ (x:El){G:Gx}{X:Cx}{S:Sn}{E:St->XK},Gd X G S k E->∀ {e:Option Expr},mO S x e=true->PO X e (λU H Q=>wO G x U H Q (E U))
 | .no,G,X,S,E,g,none,h=>yh
 | .no,G,X,S,E,g,some _,h=>by cases(show false=true from h)
 | .yes x,G,X,S,E,g,none,h=>by cases(show false=true from h)
 | .yes x,G,X,S,E,g,some e,h=>by
  conv at h=>lhs;whnf
  intro Y s U H Q I q;refine yM (PE.bJ (sE x g h)) Y s U H Q I ⟨_,q,λy H1 z=>?_⟩
  split at z
  .exact⟨_,rfl,z⟩
  .exact z.elim
termination_by structural x=>x
theorem sT:∀ (x:Tx){G:Gx}{X:Cx}{S:Sn}{E:St->XK},Gd X G S k E->∀ {e:Expr},mT S x e=true->PT X e (λU H Q=>wT G x U H Q (E U))
 | .not a,G,X,S,E,g,e,h=>by
  sleep 2
  exact Ai (sT a g h)
 | .and a b,G,X,S,E,g,e,h=>by
  sleep 3
  simp only[lw]at h;exact PT.imp (Bw (PT.bJ (sT a g h.1)) (vq (sT b g h.2))).pt λU H Q q=>⟨_,q,λk H1 z=>by rwa [cq]at z⟩
 | .or a b,G,X,S,E,g,e,h=>by
  sleep 3
  simp only[lw]at h;exact PT.imp (CZ (PT.bJ (sT a g h.1)) (vy (sT b g h.2))).pt λU H Q q=>⟨_,q,λk H1 z=>by rwa [cq]at z⟩
 | .cmp op a b,G,X,S,E,g,e,h=>by
  sleep 3
  simp only[lw,decide_eq_true_eq]at h;obtain⟨⟨⟨rfl,ha⟩,hb⟩,hn⟩:=h;refine PT.imp (xE (bY.bJ (g.cmp op)) (PE.bJ (sE a g ha)) (PE.bJ (sE b g hb)) (ck hn _)) λU H Q q=>⟨_,q,λx H1 q1=>⟨_,q1,λy H2 q2=>⟨_,q2,λz H3 q3=>?_⟩⟩⟩
  split at q3
  .exact⟨_,rfl,q3⟩
  .exact q3.elim
 | .cmp2 o1 o2 a b c,G,X,S,E,g,e,h=>by
  sleep 3
  simp only[lw,decide_eq_true_eq]at h;obtain⟨⟨⟨⟨⟨rfl,rfl⟩,ha⟩,hb⟩,hc⟩,hn⟩:=h;refine PT.imp (tF (bY.bJ (g.cmp o1)) (bY.bJ (g.cmp o2)) (PE.bJ (sE a g ha)) (PE.bJ (sE b g hb)) (PE.bJ (sE c g hc)) (iI hn)) λU H Q q=>⟨_,q,λx H1 q1=>⟨_,q1,λy H2 q2=>⟨_,q2,λz H3 q3=>?_⟩⟩⟩
  split at q3
  .refine⟨_,rfl,?_⟩;rw[cq]at q3
   split at q3
   .rename_i hk;rw[if_pos hk];refine⟨_,q3,λw H4 q4=>⟨_,q4,λz H5 q5=>?_⟩⟩
    split at q5
    .exact⟨_,rfl,q5⟩
    .exact q5.elim
   .rename_i hk;rw[if_neg hk];exact⟨_,rfl,q3⟩
  .exact q3.elim
 | .val x,G,X,S,E,g,e,h=>by
  have h:(mE S x e&&plainT e)=true:=h;simp only[lw]at h;refine PT.imp (ue (PE.bJ (sE x g h.1)) (plainT_ok h.2 _)) λU H Q q=>⟨_,q,λy H1 z=>?_⟩
  exact g.hK▸BN z
termination_by structural x=>x
theorem FT:∀ (x:eI){G:Gx}{X:Cx}{S:Sn}{E:St->XK},Gd X G S k E->∀ {ks:List Str}{keys:List (Option Expr)}{e:List Expr}{pos:Pos},kH ks keys=true->gI S x e=true->x.len=ks.length->PQ X pos keys e (λU H R=>∃ Q,wEs G x U H Q (E U)/\∀ xs H1,xs.length=x.len->Q xs H1->R (D4 ks xs) H1)
 | .nil,G,X,S,E,g,ks,keys,[],pos,h1,h,hl=>by
  obtain rfl:ks=[]:=List.eq_nil_of_length_eq_zero hl.symm;rw[g6 h1];exact λY s U H R I ⟨Q,q,i⟩=>Af Y s U H R I (i [] H rfl q)
 | .nil,G,X,S,E,g,_,_,_::_,pos,h1,h,hl=>by cases(show false=true from h)
 | .cons x xs,G,X,S,E,g,_,_,[],pos,h1,h,hl=>by cases(show false=true from h)
 | .cons x xs,G,X,S,E,g,[],keys,e::es,pos,h1,h,hl=>by cases hl
 | .cons x xs,G,X,S,E,g,c::ks,keys,e::es,pos,h1,h,hl=>by
  have h:(mE S x e&&notStar e&&gI S xs es)=true:=h;simp only[lw]at h;obtain⟨j,p,r,rfl,h2⟩:=gh h1;intro Y s U H R I ⟨Q,q,i⟩;refine wb uU (PE.bJ (sE x g h.1.1)) (FT xs g h2 h.2 (Nat.succ.inj hl)) Y s U H R I ?_;exact⟨_,q,λy H2 z=>⟨_,z,λys H3 hy w=>i (y::ys) H3 (congrArg Nat.succ hy) w⟩⟩
termination_by structural x=>x
theorem sC:∀ (x:eI){G:Gx}{X:Cx}{S:Sn}{E:St->XK},Gd X G S k E->∀ {e:List Expr},gI S x e=true->PA X e (λU H Q=>wEs G x U H Q (E U))
 | .nil,G,X,S,E,g,[],h=>c4
 | .nil,G,X,S,E,g,_::_,h=>by cases(show false=true from h)
 | .cons x xs,G,X,S,E,g,[],h=>by cases(show false=true from h)
 | .cons x xs,G,X,S,E,g,e::es,h=>by
  have h:(mE S x e&&notStar e&&gI S xs es)=true:=h;simp only[lw]at h;exact fu (sE x g h.1.1) (sC xs g h.2) h.1.2
termination_by structural x=>x
end
end
end L3
namespace L2
open PySem PySem.Spec PyProof.Rows
variable {ok:Cx->Prop}{scope:Scope}{cl:List (Str×Addr)}{fr:List Str}{sel:List Nat}{U:St}{s:Shared}
section
variable {X:Cx}
abbrev FL (X:Cx)(U:St)(st:Stmt)(t:TS):Prop:=∀ (Y:GD) (s:Shared) (H:Hp) (D:Ends),Inv X Y U H s->t D U H->wpAny (model X.prog X.w) X.A (exec st X.env) (SP X Y D) X.xe s
def eG {elt iter tgt:Expr}{ifs:List Expr}{xs:List Str}{y:Str}{py pos spos:Pos}{wi:TI}{tg:TG}{tc:TT}{te:TE}{ni:Nat}{E:XK}(hc:∀ {Y:GD}{U:St}{H:Hp}{s:Shared}{fp:List Addr},Inv X Y U H s->ok (dc X scope cl (xs++fr) s H fp E)) (hx:jn X U E) (S:aM X scope cl xs fr sel) (hi:yV ok X tgt iter wi)
  (hg:∀ (s:Shared) (H:Hp) (fp:List Addr),PG (dc X scope cl (xs++fr) s H fp E) tgt tg) (ht:∀ (s:Shared) (H:Hp) (fp:List Addr),Em (dc X scope cl (xs++fr) s H fp E) ifs tc)
  (he:∀ (s:Shared) (H:Hp) (fp:List Addr),PE (dc X scope cl (xs++fr) s H fp E) elt te) (hs:∀ x,foldedSetIterable iter X.env x=pure x) (hN:X.N.Nodup) (hni:X.N[ni]? =some y) (hy:X.env.scope.names.lookup y=some .local)
  (hsw:swapsWith (.ListComp elt [⟨tgt,iter,ifs,0⟩] scope pos) (some (.Name y py)) spos.line X.env=pure true):FL X U (.Assign [.Name y py] (.ListComp elt [⟨tgt,iter,ifs,0⟩] scope pos) spos) (λD U H=>C3 wi tg tc te xs sel U H λv H1=>D.nx (U.set ni (some v)) H1):=by
 intro Y s H DD I h;rw[exec_Assign_Name_used _ _ _ _ hsw];refine ad (wpAny_standAt (ad ?_));show wpAny _ _ (do let _ <-comprehension (.ListComp elt [⟨tgt,iter,ifs,0⟩] scope pos) scope X.env _ (newList []) false (eval iter X.env) (some (assign (.Name y py) X.env))) _ _ s;refine ad (wpAny_mono (wpAny_comprehension_free (use:=some (assign (.Name y py) X.env)) (Q:=λ_ s'=>SP X Y DD .next s') rfl hs S.clos S.kind S.names ?_) (λ_ s' hq=>am (am hq)) λ_ _ e=>e);refine ar (hi Y s U H _ I h) λv s1 h1=>ar h1 λitv s2 h2=>?_
 obtain⟨it,fp,tn,J,H2,e,I2,T,k8,f2,h2⟩:=h2;subst e;refine wpAny_newObj_type ?_;have hD:H2 s2.heap.objs.size=none:=I2.hok.fresh (pi _);have I3:Inv X Y U (upd H2 s2.heap.objs.size (.lst [])) { s2 with heap:=s2.heap.push { cls:=.type "list",dict:=none,data:=.seq ([]:List Value).toArray } }:=
  I2.laid (t':=s2.toks) (λb u e=>sK _ e) (pi _) ⟨Nat.zero_le _,[],0,.nil,ul _ rfl⟩
 have fo2:∀ b ∈ fp,b<s2.heap.objs.size:=λb hb=>by
  obtain⟨o,ho,_⟩:=T.obj _ _ k8 b hb;exact tz ho
 have f3:∀ b ∈ fp,fE X Y (upd H2 s2.heap.objs.size (.lst [])) b:=λb hb=>⟨by rw[af (pc (fo2 b hb))];exact(f2 b hb).1,(f2 b hb).2⟩
 have st3:tn 0 (s2.heap.push { cls:=.type "list",dict:=none,data:=.seq ([]:List Value).toArray }):=T.keep _ _ _ k8 λb hb o e=>sK _ e
 have fo3:∀ b ∈ fp,b<(s2.heap.push { cls:=.type "list",dict:=none,data:=.seq ([]:List Value).toArray }).objs.size:=λb hb=>by
  rw[Heap.size_push];exact Nat.lt_succ_of_lt (fo2 b hb)
 obtain⟨W,⟨m0,w0⟩,turn⟩:=h2 _ hD;generalize s2.heap.objs.size=D at*;generalize hs3:({ s2 with heap:=s2.heap.push { cls:=.type "list",dict:=none,data:=.seq ([]:List Value).toArray } }:Shared)=s3 at*;have st3':tn 0 s3.heap:=by rw[<-hs3];exact st3
 have fo3':∀ b ∈ fp,b<s3.heap.objs.size:=by rw[<-hs3];exact fo3
 refine wpAny_newFunctionEnv S.nocell (by intro y hy;simp at hy) (λh' hns hsb=>?_) S.kind;have keep:∀ b o,s3.heap.get? b=some o->h'.get? b=some o:=λb o e=>(hsb.2 b (pc (tz e))).trans (sK _ e)
 have I4:=mR (E:=E) (tk:=s3.toks+([]:List (Str×Value)).length) S I3 f3 fo3' hns keep;have st4:tn 0 h':=T.keep _ _ _ st3' λb hb o e=>keep b o e
 have stat:∀ {H':Hp},(∀ b ∈ fp,H' b=none)->∀ b ∈ fp,fE (dc X scope cl (xs++fr) s3 (upd H2 D (.lst [])) fp E) Y H' b:=λ{H'} hn b hb=>
  ⟨hn b hb,pc (fo3' b hb),λz=>(lv.mp (I3.fW b z)).elim (f3 b hb).2.1 (f3 b hb).2.2.1,.inl hb,λy c hy=>(f3 b hb).2.2.2.2.1 y c (S.sub y c hy),λp hp=>(f3 b hb).2.2.2.2.2 p hp⟩
 have loop:codeAny (model X.prog X.w) X.A (.compLoop (.ListComp elt [⟨tgt,iter,ifs,0⟩] scope pos) 0 (.ref it) (.ref D) (compEnvC scope cl s3.heap.objs.size X.env))
   (compPost (model X.prog X.w) X.A X.xe (some (assign (.Name y py) X.env)) (λ_ s'=>SP X Y DD .next s') (.ref D) s3.heap.objs.size) { s3 with heap:=h',toks:=s3.toks+([]:List (Str×Value)).length }:=by
  refine codeAny_loop rfl (λn s'=>∃ i σ' H',Inv (dc X scope cl (xs++fr) s3 (upd H2 D (.lst [])) fp E) Y σ' H' s'/\tn i s'.heap/\(∀ b ∈ fp,H' b=none)/\W i n σ' H') (λn s5 hI=>?_) m0 ⟨0,_,_,I4,st4,λb hb=>(f3 b hb).1,w0⟩;show wpAny _ _ ((compTurn (.ListComp elt [⟨tgt,iter,ifs,0⟩] scope pos) 0 (.ref it) (.ref D) (compEnvC scope cl s3.heap.objs.size X.env)).onRaise (λx=>do noteFrame x (compEnvC scope cl s3.heap.objs.size X.env);theTreesLotGoes x)) _ _ s5;refine wpAny_noted ?_;refine qj (ht s3 (upd H2 D (.lst [])) fp).1 ?_;have bad:=pA (scope:=scope) (cl:=cl) (xs:=xs) (fr:=fr) (P:=λ_ s'=>SP X Y DD .next s') (use:=some (assign (.Name y py) X.env)) (D:=D) hx I3 f3;obtain⟨i,σ5,H5,I5,st5,fr5,w5⟩:=hI;rcases turn i n σ5 H5 w5 with⟨stop,q⟩|⟨go,Nn,hNn,step⟩
  .refine ar (T.done (dc X scope cl (xs++fr) s3 (upd H2 D (.lst [])) fp E) rfl rfl rfl (hc I3) i _ s5 σ5 H5 _ I5 (stat fr5) st5 stop) λr s6 ⟨hr,I6⟩=>?_
   subst hr;obtain⟨m,hn,_⟩:=I6.loc;have J:Inv X Y U H5 s6:=I3.pG (ch:=fp) I6.os I6.base I6.hok I6.bare λb hb=>⟨(f3 b hb).2.2.2.1,(f3 b hb).2.1,(f3 b hb).2.2.2.2.1,(f3 b hb).2.2.2.2.2⟩
   have fC:H5 s3.heap.objs.size=none:=I6.free;have nL:s3.heap.objs.size≠X.env.locals:=Ne.symm (pc I3.lt);have nC:∀ z c,X.env.cells.lookup z=some c->c≠s3.heap.objs.size:=λz c e=>by
    obtain⟨v,o,ho,_⟩:=I3.cell z c e;exact pc (tz ho)
   show wpAny _ _ (assign (.Name y py) X.env (.ref D)) _ _ s6;refine wpAny_assign_Name (jC J hN hni (.inl hy) (v:=.ref D) rfl (λs7 J7 hsb=>?_) (.inr hy));obtain⟨a,sb,ha⟩:=hsb;have hne:s3.heap.objs.size≠a:=by
    rcases ha with ha|ha
    .rw[ha];exact nL
    .exact Ne.symm (nC _ _ ha)
   refine⟨m,hn.sameBut sb hne,λh'' hs''=>⟨_,H5,?_,q⟩⟩;exact J7.turned (h':=h'') (t':=s7.toks) (it:=s3.heap.objs.size) (λb o hb e=>(hs''.2 b hb).trans e) fC nL (.inr I3.sz) nC λp hp=>pc (tz (I3.pin p hp).1)
  .have fin:∀ {σ8:St}{H10:Hp}{s10:Shared},Inv (dc X scope cl (xs++fr) s3 (upd H2 D (.lst [])) fp E) Y σ8 H10 s10/\tn (i+1) s10.heap/\(∀ b ∈ fp,H10 b=none)->Nn σ8 H10->∃ m',m'<n/\∃ i σ' H',Inv (dc X scope cl (xs++fr) s3 (upd H2 D (.lst [])) fp E) Y σ' H' s10/\tn i s10.heap/\(∀ b ∈ fp,H' b=none)/\W i m' σ' H':=λ⟨I,t,f⟩ nn=>by
    obtain⟨m',hm,w10⟩:=hNn _ _ nn;exact⟨m',hm,i+1,_,_,I,t,f,w10⟩
   refine ar (T.item (dc X scope cl (xs++fr) s3 (upd H2 D (.lst [])) fp E) rfl rfl rfl (hc I3) i _ s5 σ5 H5 _ I5 (stat fr5) st5 go) λr s6 ⟨u,hr,h6⟩=>?_
   subst hr;refine ar h6 λ_ s7 ⟨xv,H7,I7,r7,y7,st7,fr7⟩=>?_
   have I7':=I7.pinned (stat fr7) (T.obj _ _ st7);refine wpAny_mono (hg s3 _ fp _ s7 σ5 H7 xv u _ I7' r7 (step xv _ y7)) (λ_ s8 ⟨σ8,H8,I8,q8⟩=>?_) bad;refine wpAny_mono ((ht s3 _ fp).2 _ s8 σ8 H8 _ I8 q8) (λok s9 ⟨H9,I9,q9⟩=>?_) bad;have back:∀ {H10:Hp}{s10:Shared},Inv (dc X scope cl (xs++fr) s3 (upd H2 D (.lst [])) fp E) _ σ8 H10 s10->Inv (dc X scope cl (xs++fr) s3 (upd H2 D (.lst [])) fp E) Y σ8 H10 s10/\tn (i+1) s10.heap/\(∀ b ∈ fp,H10 b=none):=λ{H10 s10} I10=>⟨I10.dw,T.keep _ _ _ st7 λb hb o e=>(I10.pin (b,o) (ii _ (ii _ (bq hb e)))).1,λb hb=>by
    obtain⟨o,e,d⟩:=T.obj _ _ st7 b hb;exact(I10.pin (b,o) (ii _ (ii _ (bq hb e)))).2.1⟩
   refine⟨λek=>?_,λek=>am ⟨rfl,fin (back I9) (q9.2 ek)⟩⟩;refine wpAny_mono (he s3 _ fp _ s9 _ _ _ I9 (q9.1 ek)) (λuv s10 ⟨vv,H10,I10,r10,zs,hz,hzl,n10⟩=>?_) bad;refine wpAny_mono (fQ (X:=dc X scope cl (xs++fr) s3 (upd H2 D (.lst [])) fp E) _ s10 _ H10 (.ref D) [vv] (.ref D) [uv] (λ_ H'=>H'=upd H10 D (.lst (zs++[vv]))) I10 rfl (.cons r10 .nil) ⟨D,zs,vv,rfl,rfl,hz,hzl,rfl⟩) (λ_ s11 ⟨_,H11,I11,_,e11⟩=>?_) bad;subst e11;exact am ⟨rfl,fin (back I11) n10⟩
 exact codeAny_compStart_list loop (T.self _ 0 _ _ _ st4 loop)
def ju {elt iter:Expr}{x y:Str}{px py pos spos:Pos}{wi:TI}{te:TE}{ni:Nat}{E:XK}(hc:∀ {Y:GD}{U:St}{H:Hp}{s:Shared}{fp:List Addr},Inv X Y U H s->ok (dc X scope cl (x::fr) s H fp E)) (hx:jn X U E) (S:aM X scope cl [x] fr sel) (hi:yV ok X (.Name x px) iter wi)
  (he:∀ (s:Shared) (H:Hp) (fp:List Addr),PE (dc X scope cl (x::fr) s H fp E) elt te) (hs:∀ x,foldedSetIterable iter X.env x=pure x) (hN:X.N.Nodup) (hni:X.N[ni]? =some y) (hy:X.env.scope.names.lookup y=some .local)
  (hsw:swapsWith (.ListComp elt [⟨.Name x px,iter,[],0⟩] scope pos) (some (.Name y py)) spos.line X.env=pure true):FL X U (.Assign [.Name y py] (.ListComp elt [⟨.Name x px,iter,[],0⟩] scope pos) spos) (λD U H=>FZ wi te sel U H λv H1=>D.nx (U.set ni (some v)) H1):=λY s H D I h=>
 eG (ok:=ok) hc hx S hi.up (λs H fp=>pe S) (λ_ _ _=>km) he hs hN hni hy hsw Y s H D I ⟨_,h,λ_ _ q=>q.g⟩
section
variable {prog:Program}{w:World}{A:Around}{E:GC}
def jA {it t:Addr}{items:Array Value}(hne:t≠it):∀ (n i:Nat) (s:Shared) (Q:List Value->Shared->Prop),s.heap.IsListIter it t i->s.heap.IsList t items->i+n<=items.size->
  (∀ h',h'.IsListIter it t (i+n)->Heap.SameBut it s.heap h'->Q ((items.toList.drop i).take n) { s with heap:=h' })->wpAny (model prog w) A (draw (.ref it) n) Q E s
 |0,i,s,Q,hit,_,_,hQ=>by
  show wpAny _ _ (pure []) Q E s;exact am (by simpa using hQ s.heap hit (Heap.SameBut.refl ..))
 |n+1,i,s,Q,hit,ht,hle,hQ=>by
  have hlt:i<items.size:=by omega
  show wpAny _ _ (pyNext (.ref it) >>= _) Q E s;refine ad (wpAny_pyNext_list_item hit ht (x:=items[i]) (by simp[hlt]) λh₁ hit₁ hs₁=>?_);refine ad (bd (jA hne n (i+1) _ _ hit₁ (ht.extBut hs₁.extBut hne) nofun λh₂ hit₂ hs₂=>am ?_));have hd:items.toList.drop i=items[i]::items.toList.drop (i+1):=by simp[List.drop_eq_getElem_cons,hlt]
  have:=hQ h₂ (by rw[show i+(n+1)=i+1+n by omega];exact hit₂) (hs₁.trans hs₂);rw[hd,List.take_succ_cons]at this;exact this
def gj {t:Addr}{items:Array Value}{Q:List Value->Shared->Prop}(hh:A.handled=none)(ht:s.heap.IsList t items)(hty:s.TypeIs (.ref t) "list")
  (hQ:∀ h',Heap.ExtBut s.heap.objs.size s.heap h'->Q items.toList { s with heap:=h' }):wpAny (model prog w) A (unpackItems (.ref t) items.size none) Q E s:=by
 have hlt:t≠s.heap.objs.size:=by obtain⟨o,ho,_⟩:=id ht;exact pc (tz ho)
 unfold unpackItems;refine ad ?_
 .unfold notIterableAtAll;refine ad (wpAny_specialOf hty PySem.F.slot_list_iter.lookup ?_);refine am ?_;simp only[Bool.false_eq_true,if_false];refine ad (bd (wpAny_pyIter_list ht ?_));refine ad (bd (jA hlt items.size 0 _ _ ⟨_,ul _ rfl,rfl,rfl⟩ (ht.push _) nofun λh₁ hit₁ hs₁=>?_));have hall:List.take items.size (List.drop 0 items.toList)=items.toList:=by
   rw[drop_zero];exact take_of_length_le (by simp)
  rw[hall];rw[if_neg (by simp)];have ht₁:h₁.IsList t items:=(ht.push _).extBut hs₁.extBut hlt;refine ad (bd (wpAny_pyNext_list_end hh hit₁ ht₁ (by simp) λh₂ he₂=>?_));simp only[Option.isSome_none,Bool.false_eq_true,if_false];refine am (hQ h₂ λb o hb e=>he₂ b o hb (hs₁.extBut b o hb (sK _ e)))
end
def A9 {es:List Expr}{k:Nat}{pos:Pos}{t:yn}{n:Nat}(hc:X.calm=true)(h:BG X es t)
  (hn:(assignEach es X.env).length=n) (hst:(assignEach es X.env).findIdx? (·.1)=none){Y:GD}{H:Hp}{a:Addr}{u:Value}{xs:List V}{Q:St->Hp->Prop}(I:Inv X Y U H s) (r:RelV (.ref a) u)
  (hq:aN X.K H a xs) (hl:xs.length=n) (hw:t xs U H Q):wpAny (model X.prog X.w) X.A (assign (.Tuple es k pos) X.env u) (λ_ s'=>∃ σ' H',Inv X Y σ' H' s'/\Q σ' H') X.xe s:=by
 cases r;obtain⟨its,rv,p,hz⟩:=I.list hq;rw[assign_Tuple];refine ad (wpAny_standAt ?_);unfold unpack;have e1:(assignEach es X.env).length=its.toArray.size:=by
  rw[hn,<-hl];simp[rv.length]
 rw[e1,hst];refine ad (bd (gj (I.ok.hd hc) p.isList p.isList.typeIs λh' hx=>?_));have I1:Inv X Y U H { s with heap:=h' }:=I.kept (t':=s.toks) λb o e=>hx b o (pc (tz e)) e
 exact h Y _ U H xs _ Q I1 (by simpa using rv) hw
end
end L2
namespace L3
open PySem PySem.Spec L2
set_option maxHeartbeats 2000000
abbrev zl:Expr->Bool
 | .Tuple ..=>false
 |_=>true
abbrev sJ (S:Sn):List Nat->List Expr->Bool
 | [],[]=>true
 |i::is,.Name x _::r=>S.loc i x&&sJ S is r
 |_,_=>false
abbrev EX (S:Sn):D7->Expr->Bool
 | .nm i,e=>match e with| .Name x _=>S.loc i x|_=>false
 | .tp is,e=>match e with| .Tuple ts _ _=>sJ S is ts|_=>false
 | .nt i is,e=>match e with| .Tuple y1 _ _=>(match y1 with| [y2,y3]=>(match y2 with| .Name x _=>(match y3 with| .Tuple ts _ _=>S.loc i x&&sJ S is ts|_=>false)|_=>false)|_=>false)|_=>false
mutual
noncomputable def mS (S:Sn):Sx->Stmt->Bool
 | .asg i e,s=>match s with| .Assign y1 e' _=>(match y1 with| [y2]=>(match y2 with| .Name x _=>S.loc i x&&mE S e e'|_=>false)|_=>false)|_=>false
 | .asgT is e,s=>match s with| .Assign y1 e' _=>(match y1 with| [y2]=>(match y2 with| .Tuple ts _ _=>sJ S is ts&&mE S e e'&&zl e'|_=>false)|_=>false)|_=>false
 | .par is es,_=>false
 | .sub o i v,s=>match s with| .Assign y1 v' _=>(match y1 with| [y2]=>(match y2 with| .Subscript o' i' _=>mE S o o'&&mE S i i'&&mE S v v'&&dY i'|_=>false)|_=>false)|_=>false
 | .fld o f v,s=>match s with| .Assign y1 v' _=>(match y1 with| [y2]=>(match y2 with| .Attribute o' f' _=>mE S o o'&&decide (f=f')&&mE S v v'|_=>false)|_=>false)|_=>false
 | .aug i op e,_=>false
 | .augS o i op e,s=>match s with| .AugAssign y1 op' e' _=>(match y1 with| .Subscript o' i' _=>mE S o o'&&mE S i i'&&decide (op=op')&&mE S e e'&&dY i'|_=>false)|_=>false
 | .augF o f op e,_=>false
 | .ret e,s=>match s with| .Return y1 _=>(match y1 with|some e'=>mE S e e'|_=>false)|_=>false
 | .retN,_=>false
 | .pass,_=>false
 | .brk,_=>false
 | .cont,_=>false
 | .expr e,s=>match s with| .Expr e' _=>mE S e e'&&nM e'|_=>false
 | .ife c a b,s=>match s with| .If c' a' b' _=>mT S c c'&&mB S a a'&&mB S b b'|_=>false
 | .whl c b,_=>false
 | .for t it b,s=>match s with| .For t' it' b' y1 _=>(match y1 with| []=>EX S t t'&&mI S it t' it'&&mB S b b'&&cp it'|_=>false)|_=>false
 | .rais e,s=>match s with| .Raise y1 y2 _=>(match y1 with|some e'=>(match y2 with|none=>mE S e e'|_=>false)|_=>false)|_=>false
 | .tryx b hs,s=>match s with| .Try b' y1 y2 y3 _=>(match y1 with|h0::hs'=>(match y2 with| []=>(match y3 with| []=>mB S b b'&&mH S hs (h0::hs')|_=>false)|_=>false)|_=>false)|_=>false
noncomputable def mB (S:Sn):je->List Stmt->Bool
 | .nil,l=>l.isEmpty
 | .cons s r,l=>match l with|s'::r'=>mS S s s'&&mB S r r'| []=>false
noncomputable def mH (S:Sn):vT->List ExceptHandler->Bool
 | .nil,l=>l.isEmpty
 | .cons c i b hs,l=>match l with| .ExceptHandler (some (.Name x _)) (some n) (b0::bs) _::r=>S.jm x&&decide (S.T.gcl.lookup x=some c)&&decide (S.N[i]? =some n)&&decide (S.sc.names.lookup n=some .local)&&mB S b (b0::bs)&&mH S hs r|_=>false
end
structure Gs (X:Cx) (G:Gx) (S:Sn) (k:Nat) (E:St->XK):Prop extends Gd X G S k E where
 own:PassesOwn (model X.prog X.w) X.A X.env X.xe
 stk:X.stack=X.env::X.outer
 fr:X.env.frame=some X.env.locals
 fn:∀ x,X.fn x=true
variable {e elt:Expr}{ts:List Expr}{p:Pos}{gs:List Comprehension}{scope:Scope}
section
variable {X:Cx}{G:Gx}{S:Sn}{k:Nat}{E:St->XK}
def Gs.eU (g:Gs X G S k E){Y:GD}{xe:GC}{E':St->XK}(hx:zY (X.eU Y xe) E')(ho:PassesOwn (model X.prog X.w) X.A X.env xe):Gs (X.eU Y xe) G S k E' where
 hK:=g.hK
 hT:=g.hT
 sc:=g.sc
 N:=g.N
 nd:=g.nd
 pass:=cI hx
 hd:=g.hd
 xok:=hx
 xst:=g.xst
 room:=g.room
 un:=g.un
 tab:=g.tab
 fns:=g.fns
 fnsU:=g.fnsU
 own:=ho
 stk:=g.stk
 fr:=g.fr
 fn:=g.fn
def Gs.aF (g:Gs X G S k E)(hc:G.cm=.calm)(e:Addr):Gs (X.aF (.ref e)) { G with cm:=.aF e } S k (λ_ _ _=>False) where
 hK:=g.hK
 hT:=g.hT
 sc:=g.sc
 N:=g.N
 nd:=g.nd
 pass:=λY U H s e s' I h=>by
  obtain⟨e,H',C,dx,fs,T,_,_,_,_,_,_,_,_,_,q⟩:=h;exact q.elim
 hd:=rfl
 xok:=λ_ _ _ _ _ _ _ _ _ _ z=>z.elim
 xst:=g.xst
 room:=⟨g.room.dp,g.room.un⟩
 un:=g.un
 tab:=g.tab
 fns:=λf d h=>(g.fnsU hc f d h).imp λ_ _ _ _ z=>z.2
 fnsU:=λz=>by cases z
 own:=PassesOwn.never
 stk:=g.stk
 fr:=g.fr
 fn:=g.fn
def iA (env:Env):∀ {is:List Nat}{ts:List Expr},sJ S is ts=true->(assignEach ts env).length=is.length/\(assignEach ts env).findIdx? (·.1)=none
 | [],[],_=>⟨rfl,rfl⟩
 | [],_::_,h=>by simp[sJ]at h
 |_::_,[],h=>by simp[sJ]at h
 |i::is,t::ts,h=>by
  cases t<;>simp[sJ]at h
  rename_i x p;obtain⟨h1,h2⟩:=iA env h.2;have e:assignEach (.Name x p::ts) env=(false,assign (.Name x p) env)::assignEach ts env:=rfl;rw[e];refine⟨by simp[h1],?_⟩;rw[List.findIdx?_cons];simp[h2]
def kG (g:Gs X G S k E):∀ {is:List Nat}{ts:List Expr},sJ S is ts=true->BG X ts (gl is)
 | [],[],_=>λY s U H vs us Q I r h=>j7 Y s U H vs us Q I r ⟨length_eq_zero_iff.mp h.1,by
   have:=h.2;have e:vs=[]:=length_eq_zero_iff.mp h.1;subst e;exact this⟩
 | [],_::_,h=>by simp[sJ]at h
 |_::_,[],h=>by simp[sJ]at h
 |i::is,t::ts,h=>by
  cases t<;>simp[sJ]at h
  rename_i x p;obtain⟨hi,hx⟩:=g.loc h.1;have h1:PG X (.Name x p) (fM i):=ft (by rw[g.N];exact g.nd) hi hx (.inl (g.fn x));have h2:=kG g h.2;intro Y s U H vs us Q I r q;refine fq h1 h2 rfl Y s U H vs us Q I r ?_;obtain⟨hl,q⟩:=q;cases vs with
  |nil=>simp at hl
  |cons v vs=>exact⟨v,vs,rfl,by simpa using hl,q⟩
def zi (g:Gs X G S k E)(hc:G.cm=.calm){t:D7}(h:EX S t e=true):PG X e (λv U H Q=>wG U t G.R.K v H λσ1=>Q σ1 H):=by
 cases t with
 |nm i=>
  conv at h=>lhs;whnf
  split at h
  .obtain⟨hi,hx⟩:=g.loc h;exact ft (by rw[g.N];exact g.nd) hi hx (.inl (g.fn _))
  .cases h
 |tp is=>
  conv at h=>lhs;whnf
  split at h
  .intro Y s U H v u Q I r q;obtain⟨a,xs,rfl,hq,hl,q⟩:=q;obtain⟨e1,e2⟩:=iA X.env h;rw[g.hK]at hq;rcases hq with hq|hq
   .exact ke (g.cm hc) (kG g h) e1 e2 Y s U H _ u Q I r ⟨a,xs,rfl,hq,hl,hl,q⟩
   .exact A9 (g.cm hc) (kG g h) e1 e2 I r hq hl ⟨hl,q⟩
  .cases h
 |nt i is=>
  conv at h=>lhs;whnf
  split at h
  .split at h
   .split at h
    .split at h
     .intro Y s U H v u Q I r q;simp only[lw]at h;obtain⟨a,y,b,ys,rfl,hq,hb,hl,q⟩:=q;obtain⟨e1,e2⟩:=iA X.env h.2;obtain⟨hi,hx⟩:=g.loc h.1;rw[g.hK]at hq hb;refine ke (n:=2) (g.cm hc) (fq (ft (by rw[g.N];exact g.nd) hi hx (.inl (g.fn _))) (fq (ke (g.cm hc) (kG g h.2) e1 e2) j7 rfl) rfl) rfl rfl Y s U H _ u Q I r ⟨a,_,rfl,hq,rfl,y,_,rfl,.ref b,_,rfl,b,ys,rfl,hb,hl,hl,rfl,q⟩
     .cases h
    .cases h
   .cases h
  .cases h
def mW {kk:Nat}(n:Nat)(env:Env):swapsWithSole [.Tuple ts kk p] e n env=pure false:=by
 cases e<;>rfl
def qU {o i:Expr}(n:Nat)(env:Env):swapsWithSole [.Subscript o i p] e n env=pure false:=by
 cases e<;>rfl
def qQ {o:Expr}{f:Str}(n:Nat)(env:Env):swapsWith e (some (.Attribute o f p)) n env=pure false:=by
 cases e<;>rfl
def nX {kk:Nat}(env:Env)(h:zl e=true):swappedStores [.Tuple ts kk p] e env=pure none:=by
 cases e<;>first|rfl|cases h
def oA {o i:Expr}(env:Env):swappedStores [.Subscript o i p] e env=pure none:=by
 cases e<;>rfl
def om {o i:Expr}{pos:Pos}{env:Env}(h:dY i=true):∀ v,assign (.Subscript o i pos) env v=(do
   let ov <-holding [v] (eval o env)
   let iv <-holding [v,ov] (eval i env)
   standAt pos
   holding [v,ov,iv] (setItem ov iv v)
   release [v,ov,iv] []):=by
 intro v;cases i<;>first|rfl|cases h
def yC {i:Expr}(h:dY i=true):∀ ov iv new,augStore i ov iv new=(do holding [new,ov,iv] (setItem ov iv new);release [new,ov,iv] [];pure .next):=by
 intro ov iv new;cases i<;>first|rfl|cases h
def Dw (op:Operator):Eb X op (EE op):=by
 intro Y s U H x y v u Q I r1 r2 h;unfold EE at h
 split at h
 .exact Ad Y s U H _ _ v u Q I r1 r2 ⟨_,_,rfl,rfl,h⟩
 .exact BM Y s U H _ _ v u Q I r1 r2 ⟨_,_,rfl,rfl,h⟩
 .exact h.elim
def BC (g:Gd X G S k E):zR X (uZ G.R.K):=by
 intro Y s U H x y v u Q I r1 r2 h;unfold uZ at h;rw[g.hK]at h
 split at h
 .obtain⟨xs,w,h1,h2,h3,q⟩:=h;exact vf Y s U H _ _ v u Q I r1 r2 ⟨_,xs,_,w,rfl,rfl,h1,h2,h3,q⟩
 .exact h.elim
def oE {py:Pos}{y:Str}{n:Nat}{env:Env}(hk:env.scope.kind=.function):∃ b,swapsWith (.ListComp elt gs scope p) (some (.Name y py)) n env=pure b/\(b=true->env.scope.names.lookup y=some .local):=by
 refine⟨_,rfl,λh=>?_⟩;simp only[lw]at h;have:=h.1.1.2;exact beq_iff_eq.mp this
end
set_option maxHeartbeats 2000000
variable {S:Sn}
section
variable {k:Nat}
def DX {x:Ex}(h:mE S x (.ListComp elt gs scope p)=true):(∃ e' sel it y py iter,x=.lc e' sel it/\gs=[⟨.Name y py,iter,[],0⟩]/\
  gk S scope [y] sel=true/\mI S it (.Name y py) iter=true/\mE { S with sc:=dy S.sc scope,N:=y::sel.filterMap λi=>S.N[i]? } e' elt=true/\cp iter=true)\/
  (∃ e' c sel it y py iter c',x=.lci e' c sel it/\gs=[⟨.Name y py,iter,[c'],0⟩]/\
  gk S scope [y] sel=true/\mI S it (.Name y py) iter=true/\mE { S with sc:=dy S.sc scope,N:=y::sel.filterMap λi=>S.N[i]? } e' elt=true/\mT { S with sc:=dy S.sc scope,N:=y::sel.filterMap λi=>S.N[i]? } c c'=true/\cp iter=true)\/
  ∃ e' n sel it ts kt pt iter,x=.lct e' n sel it/\gs=[⟨.Tuple ts kt pt,iter,[],0⟩]/\
  gk S scope (Cp ts) sel=true/\tT { S with sc:=dy S.sc scope,N:=Cp ts++sel.filterMap λi=>S.N[i]? } (List.range n) ts=true/\(Cp ts).length=n/\mI S it (.Tuple ts kt pt) iter=true/\mE { S with sc:=dy S.sc scope,N:=Cp ts++sel.filterMap λi=>S.N[i]? } e' elt=true/\cp iter=true:=by
 cases x<;>(try (cases(show false=true from h);done))
 all_goals (conv at h=>lhs;whnf)
 all_goals (iterate 5 (split at h<;>first|(cases h;done)|skip))
 all_goals (simp only[lw,decide_eq_true_eq]at h)
 all_goals first
  |exact .inl ⟨_,_,_,_,_,_,rfl,rfl,h.1.1.1,h.1.1.2,h.1.2,h.2⟩
  |exact .inr (.inl ⟨_,_,_,_,_,_,_,_,rfl,rfl,h.1.1.1.1,h.1.1.1.2,h.1.1.2,h.1.2,h.2⟩)
  |exact .inr (.inr ⟨_,_,_,_,_,_,_,_,rfl,rfl,h.1.1.1.1.1,h.1.1.1.1.2,h.1.1.1.2,h.1.1.2,h.1.2,h.2⟩)
def nY (e:Expr){x:Ex}(h:mE S x e=true):nM e=true\/∃ elt gs scope p,e=.ListComp elt gs scope p:=by
 cases e<;>first|exact .inl rfl|exact .inr ⟨_,_,_,_,rfl⟩|(cases x<;>cases(show false=true from h))
def CL {G:Gx}{X:Cx}{E:St->XK}(g:Gs X G S k E){i:Nat}{x:Str}{e:Ex}{e':Expr}{px:Pos}(hx:S.loc i x=true)(h:mE S e e'=true):PS X (.Assign [.Name x px] e' p) (λD U H=>wS (.asg i e) G D E U H):=by
 obtain⟨hi,hl⟩:=g.loc hx;have hN:X.N.Nodup:=by rw[g.N];exact g.nd
 rcases nY e' h with hn|⟨elt,gs,scope,pp,rfl⟩
 .exact tD hN hi hl (sE e g.toGd h) (fJ hn _ _ _) (.inl (g.fn x))
 .intro Y s U H D I q;obtain⟨b,hb,hb2⟩:=oE (elt:=elt) (gs:=gs) (scope:=scope) (p:=pp) (py:=px) (y:=x) (n:=p.line) (env:=X.env) I.ok.kind;cases b with
  |false=>exact tD hN hi hl (sE e g.toGd h) hb (.inl (g.fn x)) Y s U H D I q
  |true=>
   rcases DX h with⟨e2,sel,it,y,py,iter,rfl,rfl,h1,h2,h3,h4⟩|⟨e2,c,sel,it,y,py,iter,c',rfl,rfl,h1,h2,h3,h5,h4⟩|⟨e2,n,sel,it,ts,kt,pt,iter,rfl,rfl,h1,h5,h6,h2,h3,h4⟩
   .rcases ud (show D8 G.cm (wI G it U H (λJ H1=>nV (λσ' H' Q'=>wE G e2 σ' H' Q' (E U)) J (none::eC U sel) H1 (λx H1=>D.nx (U.set i (some x)) H1)) (E U)) (Fv G it U H (λJ H1=>nV (λσ' H' Q'=>wE { G with cm:=.mute } e2 σ' H' Q' (E U)) J (none::eC U sel) H1 (λx H1=>D.nx (U.set i (some x)) H1)) (E U)) from q) with⟨hc,q⟩|⟨hc,q⟩
    .rw[kZ]at q;obtain⟨cl,C⟩:=bj g.toGd I.ok h1;exact ju (ok:=Calm) (λ_=>g.cm hc) (g.toGd.cx U) C (sI it g.toGd h2) (λs H fp=>sE e2 (g.toGd.comp hc C (E U) s H fp) h3) (aR h4 _) hN hi (hb2 rfl) hb Y s H D I q
    .cases it with
     |seq a=>
      rw[kZ]at q;obtain⟨cl,C⟩:=bj g.toGd I.ok h1;have sx:eh X:=by
       have hd:=g.hd;rw[hc]at hd;exact hd
      refine ju (ok:=eh) (wi:=λU H R=>wE G a U H (λx H1=>match x with| .ref p=>(∃ xs,ba G.R.K H1 p xs)/\R (sG G.R.K p) H1|_=>False) (E U)) (λI'=>sx.now I') (g.toGd.cx U) C (λY s U H R I q=>?_) (λs H fp=>sE e2 (g.toGd.yZ hc C (E U) s H fp) h3) (aR h4 _) hN hi (hb2 rfl) hb Y s H D I q;have q':wE G a U H (λx H1=>match x with| .ref p=>(∃ xs,ba G.R.K H1 p xs)/\R (sG G.R.K p) H1|_=>False) (E U):=q;rw[g.hK]at q';refine ar (sE a g.toGd h2 Y s U H _ I q') λv s1 ⟨x,H1,I1,r1,z⟩=>?_
      dsimp only at z
      split at z
      .obtain⟨⟨xs,hx⟩,z⟩:=z;exact jI I1 r1 hx z
      .exact z.elim
     |_=>exact q.elim
   .cases(show false=true from h)
   .cases(show false=true from h)
mutual
theorem sS:∀ (x:Sx){G:Gx}{X:Cx}{S:Sn}{E:St->XK},Gs X G S k E->∀ {st:Stmt},mS S x st=true->PS X st (λD U H=>wS x G D E U H)
 | .asg i e,G,X,S,E,g,st,h=>by
  sleep 3
  simp only[lw]at h;exact CL g h.1 h.2
 | .asgT is e,G,X,S,E,g,st,h=>by
  sleep 3
  simp only[lw]at h;obtain⟨⟨h1,h2⟩,h3⟩:=h;intro Y s U H D I q;obtain⟨hc,q⟩:=(show G.cm=.calm/\wE G e U H (λx H1=>wG U (.tp is) G.R.K x H1 λσ1=>D.nx σ1 H1) (E U) from q);exact vH (sE e g.toGd h2) (zi g hc (t:=.tp is) (by simp only[EX];exact h1)) (mW _ _) (nX _ h3) rfl Y s U H D I q
 | .par is es,G,X,S,E,g,st,h=>by cases(show false=true from h)
 | .sub o i v,G,X,S,E,g,st,h=>by
  sleep 3
  simp only[lw]at h;obtain⟨⟨⟨h1,h2⟩,h3⟩,h4⟩:=h;exact vH (sE v g.toGd h3) (Bo (sE o g.toGd h1) (sE i g.toGd h2) (pB g.un) (om h4)) (qU _ _) (oA _) rfl
 | .fld o f v,G,X,S,E,g,st,h=>by
  sleep 3
  simp only[lw,decide_eq_true_eq]at h;obtain⟨⟨h1,rfl⟩,h3⟩:=h;intro Y s U H D I q;have q':wE G v U H (λy H1=>wE G o U H1 (λx H2=>xb G f x y H2 (λH3=>D.nx U H3)) (E U)) (E U):=q;refine plainObj_wpAny_Assign_Attribute (ar (sE v g.toGd h3 Y s U H _ I q') λu s1 ⟨y,H1,I1,ry,q⟩=>ar (sE o g.toGd h1 Y s1 U H1 _ I1 q) λov s2 ⟨x,H2,I2,rx,q2⟩=>?_) (qQ _ _);unfold xb at q2;obtain⟨a,i,rfl,hna,q2⟩:=q2;obtain rfl:ov=Value.ref a:=rx;have n:=g.tab.na i f hna;rcases q2 with⟨dx,fs,ho,ea,l,q2⟩|⟨d,fs,ho,ea,l,q2⟩|⟨ho,ea,q2⟩
  .exact nF I2 ea (g.tab.oc i ho).1 n l ry λs3 I3=>⟨U,_,I3,q2⟩
  .exact oq I2 ea (g.tab.xc i ho).1 n l ry λs3 I3=>⟨U,_,I3,q2⟩
  .exact og I2 ea (g.tab.xc i ho).1 n ry λd s3 hd I3=>⟨U,_,I3,q2 d hd⟩
 | .aug i op e,G,X,S,E,g,st,h=>by cases(show false=true from h)
 | .augS o i op e,G,X,S,E,g,st,h=>by
  sleep 2
  simp only[lw,decide_eq_true_eq]at h;obtain⟨⟨⟨⟨h1,h2⟩,rfl⟩,h3⟩,h4⟩:=h;exact xR (sE o g.toGd h1) (sE i g.toGd h2) (BC g.toGd) (sE e g.toGd h3) (Dw op) (pB g.un) (yC h4)
 | .augF o f op e,G,X,S,E,g,st,h=>by cases(show false=true from h)
 | .ret e,G,X,S,E,g,st,h=>by
  sleep 2
  exact BA (sE e g.toGd h)
 | .retN,G,X,S,E,g,st,h=>by cases(show false=true from h)
 | .pass,G,X,S,E,g,st,h=>by cases(show false=true from h)
 | .brk,G,X,S,E,g,st,h=>by cases(show false=true from h)
 | .cont,G,X,S,E,g,st,h=>by cases(show false=true from h)
 | .expr e,G,X,S,E,g,st,h=>by
  sleep 1
  simp only[lw]at h;exact wt (sE e g.toGd h.1) (fJ h.2 _ _ _)
 | .ife c a b,G,X,S,E,g,st,h=>by
  sleep 1
  simp only[lw]at h;exact PS.imp (De (PT.bJ (sT c g.toGd h.1.1)) (sB a g h.1.2) (sB b g h.2)) λD U H q=>⟨_,q,λk H1 z=>by rwa [cq]at z⟩
 | .whl c b,G,X,S,E,g,st,h=>by cases(show false=true from h)
 | .for t it b,G,X,S,E,g,st,h=>by
  sleep 2
  simp only[lw]at h;obtain⟨⟨⟨h1,h2⟩,h3⟩,h4⟩:=h;intro Y s U H D I q
  conv at q=>whnf
  obtain⟨hc,q⟩:=q;unfold i5 at q;exact AH g.own (g.cm hc) (sI it g.toGd h2) (zi g hc h1) (sB b g h3) (aR h4 _) Y s U H D I q
 | .rais e,G,X,S,E,g,st,h=>by
  sleep 3
  intro Y s U H D I q
  conv at q=>whnf
  obtain⟨hc,q⟩:=q;refine vN g.xok (g.cm hc) (PE.bJ (sE e g.toGd h)) Y s U H D I ⟨_,q,λv H1 z=>?_⟩;obtain⟨a,i,dx,fs,ev,ea,hi,q⟩:=z;exact⟨a,_,dx,fs,ev,ea,(g.tab.xc i hi).1,q⟩
 | .tryx b hs,G,X,S,E,g,st,h=>by
  sleep 4
  simp only[lw]at h;intro Y s U H D I q;obtain⟨hc,q⟩:=(show G.cm=.calm/\wB b G D (λσ' e H'=>wH hs G D σ' e H') U H from q);refine AX (E':=λσ' e H'=>wH hs G D σ' e H') I g.stk g.fr (λxe hx ho=>?_) λσ' H' s' e C dx fs T J he hT hH hp st q'=>?_
  .exact sB b (g.eU hx ho) h.1 [] s U H D (I.eU xe) q
  .exact sH hs g hc h.2 J he hT hH hp st q'
theorem sB:∀ (x:je){G:Gx}{X:Cx}{S:Sn}{E:St->XK},Gs X G S k E->∀ {st:List Stmt},mB S x st=true->zq X st (λD U H=>wB x G D E U H)
 | .nil,G,X,S,E,g,[],h=>xJ
 | .nil,G,X,S,E,g,_::_,h=>by cases(show false=true from h)
 | .cons x xs,G,X,S,E,g,[],h=>by cases(show false=true from h)
 | .cons x xs,G,X,S,E,g,st::sts,h=>by
  have h:(mS S x st&&mB S xs sts)=true:=h;simp only[lw]at h;exact uz (sS x g h.1) (sB xs g h.2)
theorem sH:∀ (x:vT){G:Gx}{X:Cx}{S:Sn}{E:St->XK},Gs X G S k E->G.cm=.calm->∀ {hs:List ExceptHandler},mH S x hs=true->∀ {Y:GD}{U:St}{H:Hp}{s:Shared}{e C:Addr}{dx:Option Addr}{fs:List (Str×V)}{T:Addr}{D:Ends},
  L2.Inv X Y U H s->H e=some (.exc C dx fs false)->X.s₀.heap.objs.size<=T->H T=none->(∀ p ∈ X.pn++Y,p.1≠T)->so s.heap e T .none->wH x G D U e H->wpAny (model X.prog X.w) X.A (handleBy (.ref e) X.env hs) (SP X Y D) X.xe s
 | .nil,G,X,S,E,g,hc,hs,h,Y,U,H,s,e,C,dx,fs,T,D,I,he,hT,hH,hp,st,q=>by
  simp only[wH]at q
 | .cons c i b hs,G,X,S,E,g,hc,l,h,Y,U,H,s,e,C,dx,fs,T,D,I,he,hT,hH,hp,st,q=>by
  conv at h=>lhs;whnf
  split at h
  .simp only[lw,decide_eq_true_eq]at h;obtain⟨⟨⟨⟨⟨h1,h2⟩,h3⟩,h4⟩,h5⟩,h6⟩:=h;obtain⟨hg,hdb⟩:=g.glob h1;have hm:=g.tab.gcl _ _ (g.hT▸h2);obtain⟨j,dx',fs',kk,he',hxc,hsub,q⟩:=(show ∃ j dx fs k,H e=some (.exc (G.R.cad j) dx fs false)/\G.T.xc.contains j=true/\G.T.sub.lookup (j,c)=some k/\_ from q);have ee:=he.symm.trans he'
   injection ee with ee
   injection ee with e1 e2 e3 e4
   subst e1;obtain⟨_,hs2⟩:=g.tab.sub j c kk hsub;obtain⟨hs3,hs4⟩:=hs2 hxc;refine lF (i:=i) I he hT hH hp st (g.tab.xc j hxc).1 hs4 hs3 hg hm (by rw[g.N];exact g.nd) (by rw[g.N];exact h3) (by rw[g.sc];exact h4) hdb (λhk s2 J=>?_) λhk=>?_
   .rw[hk]at q;unfold fP at q;exact sB b (g.aF hc e) h5 Y s2 _ H _ J q
   .rw[hk]at q;unfold fP at q;exact sH hs g hc h6 I he hT hH hp st q
  .cases h
end
end
abbrev aW (T:Tab)(R:Rt):Nat->Nat->Sp
 |0,_=>λ_ _ _ _=>False
 |k+1,f=>λvs H Q E=>match T.fns[f]? with
  |some d=>vs.length=d.ps.length/\wB d.body ⟨T,R,aW T R k,.calm⟩ { nx:=λ_ H'=>Q .non H',rt:=Q } (λ_=>E) (start d.N vs) H
  |none=>match T.fns[f-T.fns.length]? with
   |some d=>vs.length=d.ps.length/\wB d.body ⟨T,R,λg=>aW T R k (g+T.fns.length),.soft⟩ { nx:=λ_ H'=>Q .non H',rt:=Q } (λ_=>E) (start d.N vs) H
   |none=>False
structure qO (K:W.Frag) (T:Tab) (f:Addr) (d:aw):Prop where
 ex:∃ (name qual:Str) (params:Arguments) (body:List Stmt) (scope:Scope) (dV kV doc pm cdv ct oc:Value) (od an:Option Addr) (osl:Array (Option Value)),
  K.lookup f=some ⟨oc,od,.func (W.fnOf name qual params body scope dV kV doc pm an cdv ct),osl⟩/\W.codeIn K cdv qual=true/\gP d.N d.ps scope/\mB ⟨T,scope,d.N⟩ d.body body=true/\
  ∀ j,∃ ds,Binds K (W.fnOf name qual params body scope dV kV doc pm an cdv ct) d.ps ds/\Vals (d.dfl.drop j) ds
def kh {P:Program}{w:World}{K:W.Frag}{mg:GF}{base:Heap}{T:Tab}{R:Rt}(tab:wV K mg T R)(hK:R.K=K)(fs:∀ f d,T.fns[f]? =some d->qO K T (R.fad f) d):
  ∀ (k f:Nat) (d:aw),T.fns[f]? =some d->cw true P w K mg base (2*k) (R.fad f) d (aW T R k f)/\cw false P w K mg base (2*k) (R.fad f) d (aW T R k (f+T.fns.length))
 |0,f,d,hd=>by
  obtain⟨name,qual,params,body,scope,dV,kV,doc,pm,cdv,ct,oc,od,an,osl,lk,hcd,S,hm,hb⟩:=(fs f d hd).ex;exact⟨⟨⟨_,⟨λ_ _ _ _ h=>h.elim,λ_ _ _ _ _ _ _ _ _ _ _ _ _ _ h=>h.elim⟩,hb⟩,λ_ _ _ _ _=>⟨λ_ _ _ _ h=>h.elim,λ_ _ _ _ _ _ _ _ _ _ _ _ _ _ h=>h.elim⟩⟩,⟨⟨_,⟨λ_ _ _ _ h=>h.elim,λ_ _ _ _ _ _ _ _ _ _ _ _ _ _ h=>h.elim⟩,hb⟩,λ_ _ _ _ _=>⟨λ_ _ _ _ h=>h.elim,λ_ _ _ _ _ _ _ _ _ _ _ _ _ _ h=>h.elim⟩⟩⟩
 |k+1,f,d,hd=>by
  obtain⟨name,qual,params,body,scope,dV,kV,doc,pm,cdv,ct,oc,od,an,osl,lk,hcd,S,hm,hb⟩:=(fs f d hd).ex;have e1:T.fns[f+T.fns.length]? =none:=List.getElem?_eq_none (Nat.le_add_left ..);have e2:T.fns[f+T.fns.length-T.fns.length]? =some d:=by rw[Nat.add_sub_cancel];exact hd
  have all:∀ (c:Bool) (f0:Nat) (m:Md) (Ψ:Nat->Sp),(∀ vs H Q E,aW T R (k+1) f0 vs H Q E->vs.length=d.ps.length/\wB d.body ⟨T,R,Ψ,m⟩ { nx:=λ_ H'=>Q .non H',rt:=Q } (λ_=>E) (start d.N vs) H)->m.b=c->(c=true->m=.calm)->(c=false->m=.soft)->
    (∀ f' d',T.fns[f']? =some d'->cw c P w K mg base (2*k) (R.fad f') d' (Ψ f'))->(c=true->∀ f' d',T.fns[f']? =some d'->cw false P w K mg base (2*k) (R.fad f') d' (Ψ (f'+T.fns.length)))->cw c P w K mg base (2*(k+1)) (R.fad f) d (aW T R (k+1) f0):=λc f0 m Ψ h0 hm1 hm2 hm3 F1 F2=>by
   have F:=CO (c:=c) (P:=P) (w:=w) (mg:=mg) (base:=base) (CX:=t7 P w) (k:=2*k+1) (sp:=aW T R (k+1) f0) lk hcd S (λvs H Q E h=>(h0 vs H Q E h).1) (λA outer s H vs Q E hr hh h=>?_)
   .refine⟨⟨_,F,hb⟩,λfd oc' od' osl' lk'=>?_⟩;have e:=lk.symm.trans lk'
    injection e with e
    injection e with e1 e2 e3 e4
    injection e3 with e3
    subst e3;exact F
   .refine⟨λD U H=>wB d.body ⟨T,R,Ψ,m⟩ D (λ_=>E) U H,?_,(h0 vs H Q E h).2⟩;have hx:=rY (c:=c) (P:=P) (w:=w) (K:=K) (mg:=mg) (base:=base) (N:=d.N) (qual:=qual) (scope:=scope) (f:=R.fad f) (cd:=cdv) (A:=A) (outer:=outer) (E:=E) (s:=s) (H:=H);cases c with
    |true=>
     obtain rfl:=hm2 rfl;refine sB (k:=2*k) d.body (G:=⟨T,R,Ψ,.calm⟩) (S:=⟨T,scope,d.N⟩) { hK:=hK,hT:=rfl,sc:=rfl,N:=rfl,nd:=S.nd,pass:=cI hx,hd:=rfl,xst:=⟨_,_,_,rfl,rfl,rfl⟩,room:=hr,un:= ?_,tab:=tab,fns:=F1,fnsU:=λ_=>F2 rfl,xok:=hx,own:=PassesOwn.leaving,stk:=rfl,fr:=rfl,fn:=λ_=>rfl } hm;have:=hr.un;show(A.deeper _).units+200<cLine
     omega
    |false=>
     obtain rfl:=hm3 rfl;refine sB (k:=2*k) d.body (G:=⟨T,R,Ψ,.soft⟩) (S:=⟨T,scope,d.N⟩) { hK:=hK,hT:=rfl,sc:=rfl,N:=rfl,nd:=S.nd,pass:=cI hx,hd:=hh,xst:=⟨_,_,_,rfl,rfl,rfl⟩,room:=hr,un:= ?_,tab:=tab,fns:=F1,fnsU:=(λz=>by cases z),xok:=hx,own:=PassesOwn.leaving,stk:=rfl,fr:=rfl,fn:=λ_=>rfl } hm;have:=hr.un;show(A.deeper _).units+200<cLine
     omega
  refine⟨all true f .calm (aW T R k) (λvs H Q E h=>?_) rfl (λ_=>rfl) (λz=>by cases z) (λf' d' hd'=>(kh tab hK fs k f' d' hd').1) (λ_ f' d' hd'=>(kh tab hK fs k f' d' hd').2),all false (f+T.fns.length) .soft (λg=>aW T R k (g+T.fns.length)) (λvs H Q E h=>?_) rfl (λz=>by cases z) (λ_=>rfl) (λf' d' hd'=>(kh tab hK fs k f' d' hd').2) (λz=>by cases z)⟩
  .simp only[aW,hd]at h;exact h
  .simp only[aW,e1,e2]at h;exact h
abbrev gr (K:W.Frag)(n:Nat):Sp:=λvs H Q _=>∃ (a:Addr) (ns:List Int),vs=[.ref a]/\aN K H a (ns.map V.int)/\ns.length<=n/\∀ H',Q (.bl true) H'
variable {P:Program}
def vF {w:World}{H:Hp}{s:Shared}{e:Value}{s':Shared}(h:t7 P w [] H s (λ_ _=>False) e s'):False:=by
 obtain⟨e,H',C,dx,fs,T,_,_,_,_,_,_,_,_,_,q⟩:=h;exact q
variable {K:W.Frag}{fd:FuncData}{ps:List Str}
def zQ (h:Binds K fd ps []):∀ j:Nat,∃ ds,Binds K fd ps ds/\Vals (([]:List V).drop j) ds:=λj=>⟨[],h,by simp;exact .nil⟩
def vW {ds:List Value}{T:Addr}{o:Obj}{items:Array Value}{c n:Nat}(hd:fd.defaults=.ref T)(ho:K.lookup T=some o)(hs:o.data=.seq items c)(hn:n+ds.length=ps.length)
  (h:∀ us:List Value,us.length=n->∃ k:Option (Array Value)->Sem (List (Str×Value)),bindArgs fd ⟨us,[]⟩=seqItems? fd.defaults >>= k/\k (some items)=pure (ps.zip (us++ds))):Binds K fd ps ds:=λs us X hl=>by
 obtain⟨k,h1,h2⟩:=h us (by rw[ci]at hl;omega);exact W.binds_K X hd ho hs h1 h2
def jq:∀ {vs:List V}{us:List Value}(j:Nat),Vals vs us->Vals (vs.drop j) (us.drop j)
 |_,_,0,h=>h
 |_,_,j+1,.nil=>by simp;exact .nil
 |_::_,_::_,j+1,.cons _ h=>by simpa using jq j h
def nr {α β:Type} [BEq α] [LawfulBEq α] {x:α}{y:β}:∀ {l:List (α×β)},l.lookup x=some y->(x,y) ∈ l
 | [],h=>by simp at h
 |(a,b)::l,h=>by
  rw[lookup_cons]at h;cases e:x ==a with
  |true=>
   rw[e]at h;have:=beq_iff_eq.mp e;subst this
   injection h with h
   subst h;exact li
  |false=>
   rw[e]at h;exact dl _ (nr h)
def g5 {α β:Type} [BEq α] [LawfulBEq α] {P:α->β->Prop}{l:List (α×β)}(h:∀ p ∈ l,P p.1 p.2):∀ x y,l.lookup x=some y->P x y:=λx y e=>h (x,y) (nr e)
def eZ {α β γ:Type} [BEq α] [LawfulBEq α] [BEq β] [LawfulBEq β] {P:α->β->γ->Prop}{l:List ((α×β)×γ)}(h:∀ p ∈ l,P p.1.1 p.1.2 p.2):∀ x y z,l.lookup (x,y)=some z->P x y z:=λx y z e=>h ((x,y),z) (nr e)
def fY {α:Type} [BEq α] [LawfulBEq α] {P:α->Prop}{l:List α}(h:∀ p ∈ l,P p):∀ x,l.contains x=true->P x:=λx e=>h x (by simpa using e)
def yQ {α β:Type} [BEq α] [LawfulBEq α] [BEq β] [LawfulBEq β] {P:α->β->Prop}{l:List (α×β)}(h:∀ p ∈ l,P p.1 p.2):∀ x y,l.contains (x,y)=true->P x y:=λx y e=>h (x,y) (by simpa using e)
abbrev pY (P:Nat->aw->Prop):Nat->List aw->Prop
 |_,[]=>True
 |n,d::r=>P n d/\pY P (n+1) r
def zN {P:Nat->aw->Prop}:∀ {l:List aw}{n:Nat},pY P n l->∀ f d,l[f]? =some d->P (n+f) d
 | [],_,_,f,d,e=>by simp at e
 |a::l,n,h,0,d,e=>by
  have:a=d:=by simpa using e
  subst this;exact h.1
 |a::l,n,h,f+1,d,e=>by
  have:=zN h.2 f d (by simpa using e)
  rwa [Nat.add_assoc,Nat.add_comm 1 f]at this
def nU {P:Nat->aw->Prop}{l:List aw}(h:pY P 0 l):∀ f d,l[f]? =some d->P f d:=λf d e=>by
 have:=zN h f d e
 rwa [Nat.zero_add]at this
def BO {w:World}{mg:GF}{base:Heap}{T:Tab}{R:Rt}(tab:wV K mg T R)(hK:R.K=K)(fs:∀ f d,T.fns[f]? =some d->qO K T (R.fad f) d) (k fl:Nat) (d:aw) (hd:T.fns[fl]? =some d)
  {oc:Value}{od:Option Addr}{osl:Array (Option Value)}(lk:K.lookup (R.fad fl)=some ⟨oc,od,.func fd,osl⟩) (h:∀ vs H Q E,gr K 63 vs H Q E->aW T R k fl vs H Q E):cE true P w K mg base (t7 P w) (2*k) (R.fad fl) fd d.ps (gr K 63):=
 ((kh tab hK fs k fl d hd).1.own _ _ _ _ lk).imp h
end L3
namespace L3
open PySem L2
abbrev jj:HO->HO
 | .lst _=>.lst []
 | .dK _=>.dK []
 | .dT _=>.dT []
 | .fZ _ (.dK _)=>.dK []
 | .ins C dx _=>.ins C dx []
 | .exc C _ _ _=>.exc C none [] false
 |o=>o
abbrev kd:HO->Option String
 | .lst _=>some "list"
 | .tup _=>some "tuple"
 | .dK _=>some "dict"
 | .fZ _ (.dK _)=>some "dict"
 |_=>none
def pJ (o:HO):kd (jj o)=kd o:=by
 cases o<;>first|rfl|(rename_i u;cases u<;>rfl)
abbrev fV (H H':Hp):Prop:=∀ a o,H a=some o->∃ o',H' a=some o'/\jj o'=jj o
def fV.tup {H H':Hp}(g:fV H H'){t:Addr}{xs:List V}(h:H t=some (.tup xs)):H' t=some (.tup xs):=by
 obtain⟨o',h1,h2⟩:=g t _ h;have key:∀ u:HO,jj u=.tup xs->u=.tup xs:=λu=>by cases u<;>intro e<;>first|exact e|cases e|(rename_i v;cases v<;>cases e)
 rw[key o' h2]at h1;exact h1
variable {H:Hp}{v:V}{t:String}
def fV.ty {H':Hp}(g:fV H H')(h:tyName v H=some t):tyName v H'=some t:=by
 cases v<;>try exact h
 rename_i a;have h':(match H a with|some (.lst _)=>some "list"|some (.tup _)=>some "tuple"|some (.dK _)=>some "dict"|some (.fZ _ (.dK _))=>some "dict"|_=>none)=some t:=h;show(match H' a with|some (.lst _)=>some "list"|some (.tup _)=>some "tuple"|some (.dK _)=>some "dict"|some (.fZ _ (.dK _))=>some "dict"|_=>none)=some t;cases e:H a with
 |none=>rw[e]at h';cases h'
 |some o=>
  rw[e]at h';obtain⟨o',h1,h2⟩:=g a _ e;rw[h1];have key:kd o'=kd o:=by rw[<-pJ o',<-pJ o,h2]
  have k1:∀ u:HO,(match some u with|some (HO.lst _)=>some "list"|some (.tup _)=>some "tuple"|some (.dK _)=>some "dict"|some (.fZ _ (.dK _))=>some "dict"|_=>none)=kd u:=λu=>by cases u<;>first|rfl|(rename_i v;cases v<;>rfl)
  rw[k1]at h'⊢;rw[key];exact h'
variable {a:Addr}{xs:List V}
def j4 (e:H a=some (.lst xs)):tyName (.ref a) H=some "list":=by
 show(match H a with|some (.lst _)=>some "list"|some (.tup _)=>some "tuple"|some (.dK _)=>some "dict"|some (.fZ _ (.dK _))=>some "dict"|_=>none)=_;rw[e]
def wL (e:H a=some (.tup xs)):tyName (.ref a) H=some "tuple":=by
 show(match H a with|some (.lst _)=>some "list"|some (.tup _)=>some "tuple"|some (.dK _)=>some "dict"|some (.fZ _ (.dK _))=>some "dict"|_=>none)=_;rw[e]
variable {kvs:List (Key×V)}
def ym (e:H a=some (.dK kvs)):tyName (.ref a) H=some "dict":=by
 show(match H a with|some (.lst _)=>some "list"|some (.tup _)=>some "tuple"|some (.dK _)=>some "dict"|some (.fZ _ (.dK _))=>some "dict"|_=>none)=_;rw[e]
def fV.upd {o o':HO}(h:H a=some o)(e:jj o'=jj o):fV H (L2.upd H a o'):=λb u hb=>by
 by_cases z:b=a
 .subst z;rw[h]at hb;cases hb;exact⟨o',aj,e⟩
 .exact⟨u,(af z).trans hb,rfl⟩
def fV.new {o':HO}(h:H a=none):fV H (L2.upd H a o'):=λb u hb=>⟨u,(af λz=>by rw[z,h]at hb;cases hb).trans hb,rfl⟩
structure aq where
 p:Hp->(Addr->Prop)->Prop
 st:∀ H H' D,p H D->(∀ a,D a->H' a=H a)->fV H H'->p H' D
 up:∀ H D D',p H D->(∀ a,D a->D' a)->p H D'
abbrev pt (a:Addr)(o:HO):aq:=⟨λH D=>D a/\H a=some o,λH H' D h k _=>⟨h.1,(k a h.1).trans h.2⟩,λH D D' h k=>⟨k a h.1,h.2⟩⟩
abbrev tu (t:Addr)(xs:List V):aq:=⟨λH _=>H t=some (.tup xs),λH H' D h _ k=>k.tup h,λH D D' h _=>h⟩
abbrev ty (v:V)(t:String):aq:=⟨λH _=>tyName v H=some t,λH H' D h _ k=>k.ty h,λH D D' h _=>h⟩
abbrev tys (xs:List V):aq:=⟨λH _=>∀ x ∈ xs,∃ t,tyName x H=some t,λH H' D h _ k x hx=>let⟨t,e⟩:=h x hx;⟨t,k.ty e⟩,λH D D' h _=>h⟩
abbrev pu (φ:Prop):aq:=⟨λ_ _=>φ,λ_ _ _ h _ _=>h,λ_ _ _ h _=>h⟩
variable {α:Type}
abbrev ex (f:α->aq):aq:=⟨λH D=>∃ x,(f x).p H D,λH H' D ⟨x,h⟩ k t=>⟨x,(f x).st H H' D h k t⟩,λH D D' ⟨x,h⟩ k=>⟨x,(f x).up H D D' h k⟩⟩
abbrev k8 (A B:aq):aq:=⟨λH D=>∃ D1 D2:Addr->Prop,(∀ a,D1 a->D a)/\(∀ a,D2 a->D a)/\(∀ a,D1 a->D2 a->False)/\A.p H D1/\B.p H D2,
 λH H' D ⟨D1,D2,s1,s2,dj,h1,h2⟩ k t=>⟨D1,D2,s1,s2,dj,A.st H H' D1 h1 (λa z=>k a (s1 a z)) t,B.st H H' D2 h2 (λa z=>k a (s2 a z)) t⟩,
 λH D D' ⟨D1,D2,s1,s2,dj,h1,h2⟩ k=>⟨D1,D2,λa z=>k a (s1 a z),λa z=>k a (s2 a z),dj,h1,h2⟩⟩
abbrev aQ:List aq->Hp->(Addr->Prop)->Prop
 | [],_,_=>True
 |A::O,H,D=>∃ D1 D2:Addr->Prop,(∀ a,D1 a->D a)/\(∀ a,D2 a->D a)/\(∀ a,D1 a->D2 a->False)/\A.p H D1/\aQ O H D2
abbrev Sep (O:List aq)(H:Hp):Prop:=∃ D:Addr->Prop,(∀ a,D a->H a≠none)/\aQ O H D
inductive ae (A:aq):List aq->List aq->Prop where
 |e {O:List aq}:ae A (A::O) O
 |t {B:aq}{O Γ':List aq}(h:ae A O Γ'):ae A (B::O) (B::Γ')
variable {g:List aq}
section
variable {A B:aq}{O Γ':List aq}{H H':Hp}{a b p t:Addr}{o o':HO}{xs:List V}{φ:Prop}
def aQ.st:∀ {O:List aq}{H H':Hp}{D:Addr->Prop},aQ O H D->(∀ a,D a->H' a=H a)->fV H H'->aQ O H' D
 | [],_,_,_,_,_,_=>True.intro
 |A::O,H,H',D,⟨D1,D2,s1,s2,dj,h1,h2⟩,k,t=>⟨D1,D2,s1,s2,dj,A.st H H' D1 h1 (λa z=>k a (s1 a z)) t,aQ.st h2 (λa z=>k a (s2 a z)) t⟩
def aQ.up:∀ {O:List aq}{H:Hp}{D D':Addr->Prop},aQ O H D->(∀ a,D a->D' a)->aQ O H D'
 | [],_,_,_,_,_=>True.intro
 |A::O,H,D,D',⟨D1,D2,s1,s2,dj,h1,h2⟩,k=>⟨D1,D2,λa z=>k a (s1 a z),λa z=>k a (s2 a z),dj,h1,h2⟩
def Sep.nil:Sep [] H:=⟨λ_=>False,λ_ z=>z.elim,True.intro⟩
def aQ.pull:∀ {O Γ':List aq}{D:Addr->Prop},ae A O Γ'->aQ O H D->aQ (A::Γ') H D:=by
 intro O Γ' D h
 induction h generalizing D with
 |e=>exact λz=>z
 |t h ih=>
  rintro⟨D1,D2,s1,s2,dj,h1,h2⟩;obtain⟨E1,E2,t1,t2,ej,k1,k2⟩:=ih h2;refine⟨E1,λa=>D1 a\/E2 a,λa z=>s2 a (t1 a z),λa z=>z.elim (s1 a) λz=>s2 a (t2 a z),λa z1 z2=>?_,k1,D1,E2,λa z=>.inl z,λa z=>.inr z,λa z1 z2=>dj a z1 (t2 a z2),h1,k2⟩;rcases z2 with z2|z2
  .exact dj a z2 (t1 a z1)
  .exact ej a z1 z2
def Sep.pull (h:ae A O Γ')(s:Sep O H):Sep (A::Γ') H:=let⟨D,k,z⟩:=s;⟨D,k,aQ.pull h z⟩
def aQ.push:∀ {O Γ':List aq}{D:Addr->Prop},ae A O Γ'->aQ (A::Γ') H D->aQ O H D:=by
 intro O Γ' D h
 induction h generalizing D with
 |e=>exact λz=>z
 |t h ih=>
  rintro⟨D1,D2,s1,s2,dj,h1,E1,E2,t1,t2,ej,k1,k2⟩;refine⟨E1,λa=>D1 a\/E2 a,λa z=>s2 a (t1 a z),λa z=>z.elim (s1 a) λz=>s2 a (t2 a z),λa z1 z2=>?_,k1,ih ⟨D1,E2,λa z=>.inl z,λa z=>.inr z,λa z1 z2=>dj a z1 (t2 a z2),h1,k2⟩⟩;rcases z2 with z2|z2
  .exact dj a z2 (t1 a z1)
  .exact ej a z1 z2
def Sep.push (h:ae A O Γ')(s:Sep (A::Γ') H):Sep O H:=let⟨D,k,z⟩:=s;⟨D,k,aQ.push h z⟩
def Sep.drop (s:Sep (A::O) H):Sep O H:=let⟨D,k,D1,D2,s1,s2,dj,h1,h2⟩:=s;⟨D2,λa z=>k a (s2 a z),h2⟩
def Sep.at (s:Sep (pt a o::O) H):H a=some o:=let⟨D,k,D1,D2,s1,s2,dj,h1,h2⟩:=s;h1.2
def Sep.atT (s:Sep (tu t xs::O) H):H t=some (.tup xs):=let⟨D,k,D1,D2,s1,s2,dj,h1,h2⟩:=s;h1
def Sep.pure (s:Sep (pu φ::O) H):φ:=let⟨D,k,D1,D2,s1,s2,dj,h1,h2⟩:=s;h1
def Sep.yF (h:φ)(s:Sep O H):Sep (pu φ::O) H:=let⟨D,k,h2⟩:=s;⟨D,k,λ_=>False,D,λ_ z=>z.elim,λ_ z=>z,λ_ z _=>z,h,h2⟩
def Sep.Fx (h:H t=some (.tup xs))(s:Sep O H):Sep (tu t xs::O) H:=let⟨D,k,h2⟩:=s;⟨D,k,λ_=>False,D,λ_ z=>z.elim,λ_ z=>z,λ_ z _=>z,h,h2⟩
def Sep.ne (s:Sep (pt a o::pt b o'::O) H):a≠b:=by
 obtain⟨D,k,D1,D2,s1,s2,dj,h1,E1,E2,t1,t2,ej,k1,k2⟩:=s;rintro rfl;exact dj a h1.1 (t1 a k1.1)
def Sep.set (s:Sep (pt a o::O) H)(n:jj o'=jj o):Sep (pt a o'::O) (upd H a o'):=by
 obtain⟨D,k,D1,D2,s1,s2,dj,h1,h2⟩:=s;refine⟨D,λb z=>?_,D1,D2,s1,s2,dj,⟨h1.1,aj⟩,aQ.st h2 (λb z=>af λe=>dj a h1.1 (e▸z)) (fV.upd h1.2 n)⟩
 by_cases e:b=a
 .rw[e,aj];exact λz=>by cases z
 .rw[af e];exact k b z
def Sep.new (s:Sep O H)(h:H p=none):Sep (pt p o::O) (upd H p o):=by
 obtain⟨D,k,z⟩:=s;have ne:∀ b,D b->b≠p:=λb hb e=>k b hb (e▸h)
 refine⟨λb=>b=p\/D b,λb hb=>?_,λb=>b=p,D,λb e=>.inl e,λb e=>.inr e,λb e z=>ne b z e,⟨rfl,aj⟩,aQ.st z (λb hb=>af (ne b hb)) (fV.new h)⟩;rcases hb with rfl|hb
 .rw[aj];exact λz=>by cases z
 .rw[af (ne b hb)];exact k b hb
def Sep.iP (s:Sep O H)(h:H p=none):Sep (tu p xs::O) (upd H p (.tup xs)):=Sep.Fx aj (Sep.drop (s.new (o:=.tup xs) h))
def Sep.toT (s:Sep (pt t (.tup xs)::O) H):Sep (tu t xs::O) H:=Sep.Fx s.at s.drop
def Sep.star:Sep (k8 A B::O) H ↔ Sep (A::B::O) H:=by
 constructor
 .rintro⟨D,k,D1,D2,s1,s2,dj,⟨E1,E2,t1,t2,ej,k1,k2⟩,h2⟩;refine⟨D,k,E1,λa=>E2 a\/D2 a,λa z=>s1 a (t1 a z),λa z=>z.elim (λz=>s1 a (t2 a z)) (s2 a),λa z1 z2=>?_,k1,E2,D2,λa z=>.inl z,λa z=>.inr z,λa z1 z2=>dj a (t2 a z1) z2,k2,h2⟩;rcases z2 with z2|z2
  .exact ej a z1 z2
  .exact dj a (t1 a z1) z2
 .rintro⟨D,k,D1,D2,s1,s2,dj,h1,E1,E2,t1,t2,ej,k1,k2⟩;refine⟨D,k,λa=>D1 a\/E1 a,E2,λa z=>z.elim (s1 a) λz=>s2 a (t1 a z),λa z=>s2 a (t2 a z),λa z1 z2=>?_,⟨D1,E1,λa z=>.inl z,λa z=>.inr z,λa z1 z2=>dj a z1 (t1 a z2),h1,k1⟩,k2⟩;rcases z1 with z1|z1
  .exact dj a z1 (t2 a z2)
  .exact ej a z1 z2
def Sep.Cd {f:α->aq}:Sep (ex f::O) H ↔ ∃ x,Sep (f x::O) H:=by
 constructor
 .rintro⟨D,k,D1,D2,s1,s2,dj,⟨x,h1⟩,h2⟩;exact⟨x,D,k,D1,D2,s1,s2,dj,h1,h2⟩
 .rintro⟨x,D,k,D1,D2,s1,s2,dj,h1,h2⟩;exact⟨D,k,D1,D2,s1,s2,dj,⟨x,h1⟩,h2⟩
def Sep.imp (h:∀ H D,A.p H D->B.p H D) (s:Sep (A::O) H):Sep (B::O) H:=let⟨D,k,D1,D2,s1,s2,dj,h1,h2⟩:=s;⟨D,k,D1,D2,s1,s2,dj,h _ _ h1,h2⟩
def Sep.Bs {t:String}(s:Sep (ty v t::O) H):tyName v H=some t:=let⟨D,k,D1,D2,s1,s2,dj,h1,h2⟩:=s;h1
def Sep.Df (s:Sep (tys xs::O) H):∀ x ∈ xs,∃ t,tyName x H=some t:=let⟨D,k,D1,D2,s1,s2,dj,h1,h2⟩:=s;h1
def Sep.free (h:∀ D,A.p H D) (s:Sep O H):Sep (A::O) H:=let⟨D,k,h2⟩:=s;⟨D,k,λ_=>False,D,λ_ z=>z.elim,λ_ z=>z,λ_ z _=>z,h _,h2⟩
def Sep.B1 {t:String}(h:tyName v H=some t)(s:Sep O H):Sep (ty v t::O) H:=s.free λ_=>h
def Sep.Dd (h:∀ x ∈ xs,∃ t,tyName x H=some t) (s:Sep O H):Sep (tys xs::O) H:=s.free λ_=>h
def Sep.get (s:Sep O H)(h:ae (pt a o) O Γ'):H a=some o:=(s.pull h).at
def Sep.Ar (s:Sep O H)(h:ae (tu t xs) O Γ'):H t=some (.tup xs):=(s.pull h).atT
inductive bZ (A B:aq):List aq->List aq->Prop where
 |e {O:List aq}:bZ A B (A::O) (B::O)
 |t {C:aq}{O Γ':List aq}(h:bZ A B O Γ'):bZ A B (C::O) (C::Γ')
def ae.k1 {b:aq}:ae A (b::A::g) (b::g):=.t .e
def ae.k2 {b c:aq}:ae A (b::c::A::g) (b::c::g):=.t .k1
def ae.k3 {b c d:aq}:ae A (b::c::d::A::g) (b::c::d::g):=.t .k2
def ae.j2 {b c:aq}{f:List aq}(h:ae A g f):ae A (b::c::g) (b::c::f):=.t (.t h)
def bZ.k1 {b:aq}:bZ A B (b::A::g) (b::B::g):=.t .e
def bZ.k2 {b c:aq}:bZ A B (b::c::A::g) (b::c::B::g):=.t .k1
def bZ.k3 {b c d:aq}:bZ A B (b::c::d::A::g) (b::c::d::B::g):=.t .k2
def bZ.iM (h:bZ A B O Γ'):∃ Δ,ae A O Δ/\ae B Γ' Δ:=by
 induction h with
 |e=>exact⟨_,.e,.e⟩
 |t h ih=>
  obtain⟨Δ,h1,h2⟩:=ih;exact⟨_,.t h1,.t h2⟩
def Sep.put (s:Sep O H)(h:bZ (pt a o) (pt a o') O Γ')(n:jj o'=jj o):Sep Γ' (upd H a o'):=by
 obtain⟨Δ,h1,h2⟩:=h.iM;exact((s.pull h1).set n).push h2
inductive Sub:List aq->List aq->Prop where
 |refl {O:List aq}:Sub O O
 |nil {O:List aq}:Sub [] O
 |cons {A:aq}{O Γ' Δ:List aq}(h:ae A O Δ) (r:Sub Γ' Δ):Sub (A::Γ') O
 |drop {A:aq}{O Γ':List aq}(r:Sub Γ' O):Sub Γ' (A::O)
def aQ.sub:∀ {O Γ':List aq}{D:Addr->Prop},Sub Γ' O->aQ O H D->aQ Γ' H D:=by
 intro O Γ' D h
 induction h generalizing D with
 |refl=>exact λz=>z
 |nil=>exact λ_=>True.intro
 |cons h r ih=>
  intro z;obtain⟨D1,D2,s1,s2,dj,h1,h2⟩:=aQ.pull h z;exact⟨D1,D2,s1,s2,dj,h1,ih h2⟩
 |drop r ih=>
  rintro⟨D1,D2,s1,s2,dj,h1,h2⟩;exact(ih h2).up s2
def Sep.sub (h:Sub Γ' O)(s:Sep O H):Sep Γ' H:=let⟨D,k,z⟩:=s;⟨D,k,aQ.sub h z⟩
end
@[irreducible] noncomputable def aa (T:Tab) (R:Rt) (k f:Nat):Sp:=aW T R k f
def gX:aa=aW:=by
 funext T R k f
 unfold aa
 rfl
variable {vs:List V}{Q:VK}{E:XK}
def wc {T:Tab}{R:Rt}{k f:Nat}{d:aw}(hk:0<k)(hd:T.fns[f]? =some d)(hl:vs.length=d.ps.length)
  (h:wB d.body ⟨T,R,aa T R (k-1),.calm⟩ { nx:=λ_ H'=>Q .non H',rt:=Q } (λ_=>E) (start d.N vs) H):aa T R k f vs H Q E:=by
 rw[gX]at h⊢;cases k with
 |zero=>exact absurd hk (by decide)
 |succ k=>
  show(match T.fns[f]? with|some d=>_|none=>_);rw[hd];exact⟨hl,h⟩
def DH {T:Tab}{R:Rt}{k f:Nat}{d:aw}(hk:0<k)(hd:T.fns[f]? =some d)(hl:vs.length=d.ps.length)
  (h:wB d.body ⟨T,R,λg=>aa T R (k-1) (g+T.fns.length),.soft⟩ { nx:=λ_ H'=>Q .non H',rt:=Q } (λ_=>E) (start d.N vs) H):aa T R k (f+T.fns.length) vs H Q E:=by
 rw[gX]at h⊢;cases k with
 |zero=>exact absurd hk (by decide)
 |succ k=>
  have e1:T.fns[f+T.fns.length]? =none:=List.getElem?_eq_none (Nat.le_add_left ..);have e2:T.fns[f+T.fns.length-T.fns.length]? =some d:=by rw[Nat.add_sub_cancel];exact hd
  show(match T.fns[f+T.fns.length]? with|some d=>_|none=>match T.fns[f+T.fns.length-T.fns.length]? with|some d=>_|none=>False);rw[e1,e2];exact⟨hl,h⟩
variable {c:Bool}
def gm {A B:Prop}(h1:c=true->A)(h2:c=false->B):fP c A B:=by
 unfold fP;cases c
 .exact h2 rfl
 .exact h1 rfl
def cD {A B:Prop}(h:c=true)(h1:A):fP c A B:=by subst h;unfold fP;exact h1
def cb {A B:Prop}(h:c=false)(h1:B):fP c A B:=by subst h;unfold fP;exact h1
def AW {A B:Prop}(h:fP c B A):fP (!c) A B:=by
 unfold fP at h⊢;cases c
 .exact h
 .exact h
def aE {p:Prop} [Decidable p] {A B:Prop}(h1:p->A)(h2:¬ p->B):fP (decide p) A B:=gm (λh=>h1 (of_decide_eq_true h)) λh=>h2 (of_decide_eq_false h)
def bz {i j:Int}{A B:Prop}(h1:i=j->A)(h2:i≠j->B):fP (la (.int i) (.int j)) A B:=by
 show fP (i ==j) A B;exact gm (λh=>h1 (by simpa using h)) λh=>h2 (by simpa using h)
variable {dx:Option Addr}{n j:Nat}{fs:List (Str×V)}{es:List V}{R:It->Hp->Prop}{b:Bool}
section
variable {K:W.Frag}{G:Gx}{O Γ':List aq}{H:Hp}{Q:VK}{a p:Addr}{o:HO}{xs ys:List V}{v w:V}{i:Int}{f:Str}
def al (s:Sep O H)(h:∀ p H',Sep (pt p o::O) H'->Q (.ref p) H'):∀ p,H p=none->Q (.ref p) (upd H p o):=λp hp=>h p _ (s.new hp)
def d4 {C x dx:Addr}(s:Sep O H)(h1:H x=none)(h2:H dx=none)(h3:dx≠x):Sep (pt x (.ins C dx [])::pt dx (.own x)::O) (upd (upd H dx (.own x)) x (.ins C dx [])):=(s.new h2).new (by rw[af h3.symm];exact h1)
def g9 (s:Sep O H)(r:bZ (pt a (.exc (G.R.cad n) dx fs true)) (pt a (.exc (G.R.cad n) dx fs false)) O Γ')(ho:G.T.xc.contains n=true)(h:∀ H',Sep Γ' H'->E a H'):
  ∃ b i dx fs,V.ref a=.ref b/\H b=some (.exc (G.R.cad i) dx fs true)/\G.T.xc.contains i=true/\E b (upd H b (.exc (G.R.cad i) dx fs false)):=by
 obtain⟨Δ,h1,h2⟩:=r.iM;exact⟨a,n,dx,fs,rfl,s.get h1,ho,h _ (s.put r rfl)⟩
def F6 (s:Sep O H)(h:∀ p H',Sep (tu p xs::O) H'->Q (.ref p) H'):∀ p,H p=none->Q (.ref p) (upd H p (.tup xs)):=λp hp=>h p _ (s.iP hp)
def tR (s:Sep O H)(hl:es.length<=10000)(h:∀ p H',Sep (pt p (.lst es)::O) H'->Q (.ref p) H'):wA es H Q:=by unfold wA;exact⟨hl,al s h⟩
def pk (s:Sep O H)(hl:es.length<=10000)(h:∀ p H',Sep (pt p (.tup es)::O) H'->Q (.ref p) H'):iP es H Q:=by unfold iP;exact⟨hl,al s h⟩
def BH (s:Sep O H)(h:∀ p H',Sep (pt p (.dK [])::O) H'->Q (.ref p) H'):newD H Q:=by unfold newD;exact al s h
def uj {xs:List α}{x:α}(h:xs[j]? =some x):jc xs (0+(j:Int))=some x:=by rw[Int.zero_add];exact L2.gN h
def bE (e:H a=some (.lst xs))(hv:jc xs i=some v)(q:Q v H):nh K (.ref a) (.int i) H Q:=by unfold nh;exact .inl ⟨xs,i,v,rfl,.inl (aN.of e),hv,q⟩
def iN (e:H a=some (.tup xs))(hv:jc xs i=some v)(q:Q v H):nh K (.ref a) (.int i) H Q:=by unfold nh;exact .inl ⟨xs,i,v,rfl,.inr (ba.of e),hv,q⟩
def ql {R:Hp->Prop}(s:Sep O H)(r:bZ (pt a (.lst xs)) (pt a (.lst ys)) O Γ')(hj:sF xs.length i=some j)(hx:xs.set j v=ys)(h:∀ H',Sep Γ' H'->R H'):qL (.ref a) (.int i) v H R:=by
 obtain⟨Δ,h1,h2⟩:=r.iM;subst hx;unfold qL;exact .inl ⟨xs,i,j,rfl,s.get h1,hj,h _ (s.put r rfl)⟩
def Ct (e:H a=some (.lst xs))(h0:0<=i)(hv:xs[i.toNat]? =some v)(q:Q v H):uZ K (.ref a) (.int i) H Q:=by unfold uZ;exact⟨xs,v,aN.of e,h0,hv,q⟩
def CB {dx:Addr}(e:H a=some (.ins (G.R.cad n) dx fs))(ho:G.T.oc.contains n=true)(hn:G.T.na.contains (n,f)=true)(hl:fs.lookup f=some v)(q:Q v H):oH G f (.ref a) H Q:=by unfold oH;exact⟨a,n,fs,v,rfl,.inl ⟨ho,dx,e⟩,hn,hl,q⟩
def Du {dx:Addr}{fr:Bool}(e:H a=some (.exc (G.R.cad n) (some dx) fs fr))(ho:G.T.xc.contains n=true)(hn:G.T.na.contains (n,f)=true)(hl:fs.lookup f=some v)(q:Q v H):oH G f (.ref a) H Q:=by unfold oH;exact⟨a,n,fs,v,rfl,.inr ⟨ho,dx,fr,e⟩,hn,hl,q⟩
def EK {dx:Addr}{fs':List (Str×V)}{R:Hp->Prop}(s:Sep O H)(r:bZ (pt a (.ins (G.R.cad n) dx fs)) (pt a (.ins (G.R.cad n) dx fs')) O Γ')(ho:G.T.oc.contains n=true)(hn:G.T.na.contains (n,f)=true)(hl:fs.length<1000)(hf:b6 f v fs=fs')(h:∀ H',Sep Γ' H'->R H'):xb G f (.ref a) v H R:=by
 obtain⟨Δ,h1,h2⟩:=r.iM;subst hf;unfold xb;exact⟨a,n,rfl,hn,.inl ⟨dx,fs,ho,s.get h1,hl,h _ (s.put r rfl)⟩⟩
def DI {d:Addr}{fs':List (Str×V)}{R:Hp->Prop}(s:Sep O H)(r:bZ (pt a (.exc (G.R.cad n) (some d) fs true)) (pt a (.exc (G.R.cad n) (some d) fs' true)) O Γ')(ho:G.T.xc.contains n=true)(hn:G.T.na.contains (n,f)=true)(hl:fs.length<1000)(hf:b6 f v fs=fs')(h:∀ H',Sep Γ' H'->R H'):xb G f (.ref a) v H R:=by
 obtain⟨Δ,h1,h2⟩:=r.iM;subst hf;unfold xb;exact⟨a,n,rfl,hn,.inr (.inl ⟨d,fs,ho,s.get h1,hl,h _ (s.put r rfl)⟩)⟩
def pQ {R:Hp->Prop}(s:Sep (pt a (.exc (G.R.cad n) none [] true)::O) H)(ho:G.T.xc.contains n=true)(hn:G.T.na.contains (n,f)=true)(h:∀ d H',Sep (pt a (.exc (G.R.cad n) (some d) [(f,v)] true)::pt d (.own a)::O) H'->R H'):xb G f (.ref a) v H R:=by
 unfold xb;refine⟨a,n,rfl,hn,.inr (.inr ⟨ho,s.at,λd hd=>h d _ ?_⟩)⟩;exact((s.new (o:=.own a) hd).pull (.t .e)).set rfl
def aT {n:String}(ht:tyName v H=some t)(hb:G.T.subB.lookup (t,n)=some b)(q:Q (.bl b) H):cX G (.ty n) v H Q:=by unfold cX;exact .inl ⟨t,b,ht,hb,q⟩
def CK (ht:tyName v H=some t)(hb:G.T.subO.lookup (t,n)=some b)(q:Q (.bl b) H):cX G (.own n) v H Q:=by unfold cX;exact .inl ⟨t,b,ht,hb,q⟩
def C0 {fr:Bool}(e:H a=some (.exc (G.R.cad j) dx fs fr))(ho:G.T.xc.contains j=true)(hb:G.T.sub.lookup (j,n)=some b)(q:Q (.bl b) H):cX G (.own n) (.ref a) H Q:=by unfold cX;exact .inr ⟨a,j,b,rfl,.inr ⟨ho,dx,fs,fr,e⟩,hb,q⟩
def AZ {n:String}{fr:Bool}(e:H a=some (.exc (G.R.cad j) dx fs fr))(ho:G.T.xc.contains j=true)(hb:G.T.subT.lookup (j,n)=some b)(q:Q (.bl b) H):cX G (.ty n) (.ref a) H Q:=by unfold cX;exact .inr ⟨a,j,b,rfl,.inr ⟨ho,dx,fs,fr,e⟩,hb,q⟩
def pN {dx:Addr}(e:H a=some (.ins (G.R.cad j) dx fs))(ho:G.T.oc.contains j=true)(hb:G.T.sub.lookup (j,n)=some b)(q:Q (.bl b) H):cX G (.own n) (.ref a) H Q:=by unfold cX;exact .inr ⟨a,j,b,rfl,.inl ⟨ho,dx,fs,e⟩,hb,q⟩
def fA (e:H a=some (.lst xs))(q:Q (.int xs.length) H):o6 G .len [.ref a] H Q:=by unfold o6;exact⟨_,xs.length,rfl,.inl ⟨xs,aN.of e,rfl⟩,q⟩
def w8 {ns:List Int}{m:Int}(hc:G.cm=.calm)(e:H a=some (.lst (ns.map V.int)))(hm:m ∈ ns)(hl:∀ z ∈ ns,m<=z) (q:Q (.int m) H):o6 G .min [.ref a] H Q:=by unfold o6;exact⟨hc,.inr ⟨a,ns,m,rfl,aN.of e,hm,hl,q⟩⟩
def ou {cs:List Nat}{fr:Bool}(s:Sep O H)(ho:G.T.xc.contains j=true)(e:H a=some (.exc (G.R.cad j) dx fs fr))(hb:anyS G j cs=some b)(q:∀ p H',Sep (tu p (cs.map λc=>.ref (G.R.cad c))::O) H'->Q (.bl b) H'):∀ p,H p=none->mF G cs (.ref a) (upd H p (.tup (cs.map λc=>.ref (G.R.cad c)))) Q:=λp hp=>by
 unfold mF;refine .inr ⟨a,j,b,rfl,.inr ⟨ho,dx,fs,fr,?_⟩,hb,q p _ (s.iP hp)⟩;rw[af]
 .exact e
 .intro z;rw[z,hp]at e;cases e
def uM (h0:0<=i)(h1:i<n):sF n i=some i.toNat:=by
 unfold sF;rw[if_pos h0,if_pos h1]
def gM (s:Sep O H)(e:H a=some (.lst xs))(h:∀ p H',Sep (pt p (.lst xs)::O) H'->Q (.ref p) H'):o6 G .list [.ref a] H Q:=by unfold o6;exact .inl ⟨_,xs,rfl,.inl (aN.of e),al s h⟩
def pd (s:Sep O H)(e:H a=some (.lst xs))(h:∀ p H',Sep (tu p xs::O) H'->Q (.ref p) H'):o6 G .tuple [.ref a] H Q:=by unfold o6;exact⟨_,xs,rfl,.inl ⟨aN.of e,F6 s h⟩⟩
def Dh (s:Sep O H){b:Addr}(e1:H a=some (.lst xs))(e2:H b=some (.lst ys))(hl:xs.length+ys.length<=100000)(h:∀ p H',Sep (pt p (.lst (xs++ys))::O) H'->Q (.ref p) H'):wM K a b H Q:=by unfold wM;exact .inl ⟨xs,ys,e1,e2,hl,al s h⟩
def DA (s:Sep O H)(e:H a=some (.lst xs))(h1: -1000<=i)(h2:i<=1000)(h3:xs.length<=1000)(h:∀ p H',Sep (pt p (.lst (ss i.toNat xs).flatten)::O) H'->Q (.ref p) H'):wo K a i H Q:=by unfold wo;exact .inl ⟨xs,e,h1,h2,h3,al s h⟩
def uW {y:V}(s:Sep O H)(r:bZ (pt a (.lst xs)) (pt a (.lst (xs++[y]))) O Γ')(hl:xs.length<=10000)(h:∀ H',Sep Γ' H'->Q .non H'):AU .append a xs [y] H Q:=by unfold AU;exact⟨_,rfl,hl,h _ (s.put r rfl)⟩
def EW {lo hi:Option Int}(s:Sep O H)(e:aN K H a xs)(h:∀ p H',Sep (pt p (.lst (f6 xs lo hi))::O) H'->Q (.ref p) H'):y9 K (.ref a) lo hi H Q:=by unfold y9;exact .inl ⟨xs,e,al s h⟩
def C7 (e:H a=some (.lst xs))(h:R (Bt K a) H):oB K a H R:=by unfold oB;exact .inl ⟨⟨xs,aN.of e⟩,h⟩
def BF (e:H a=some (.lst xs))(h:R (DG a) H):xO a H R:=by unfold xO;exact⟨⟨xs,e⟩,h⟩
def Fn {lo hi:Option Int}(s:Sep O H)(e:H a=some (.lst xs))(h:∀ p H',Sep (pt p (.lst (f6 xs lo hi))::O) H'->Q (.ref p) H'):y9 K (.ref a) lo hi H Q:=by unfold y9;exact .inl ⟨xs,aN.of e,al s h⟩
end
variable {x:V}
section
variable {K:W.Frag}{H:Hp}{Q:VK}
def a8 (f:ay x=true):la x x=true:=by
 cases x<;>simp[ay]at f<;>simp[la]
def eY {y:V}(fx:ay x=true)(fy:ay y=true)(q:Q (.bl (la x y)) H):cy K false x y H Q:=by unfold cy;exact .inr ⟨0,_,.flat fx fy,by decide,.inl fx,q⟩
def dX {y:V}(fx:ay x=true)(fy:ay y=true)(q:Q (.bl (!la x y)) H):cy K true x y H Q:=by unfold cy;exact .inr ⟨0,_,.flat fx fy,by decide,.inl fx,q⟩
def ub {b:Addr}(h:eu K H n (.ref a) (.ref b) c)(hn:n<=100)(ne:a≠b)(q:Q (.bl c) H):cy K false (.ref a) (.ref b) H Q:=by unfold cy;exact .inr ⟨n,c,h,hn,.inr (.inl λz=>ne (V.ref.inj z)),q⟩
def jZ {b:Addr}(h:eu K H n (.ref a) (.ref b) c)(hn:n<=100)(ne:a≠b)(q:Q (.bl (!c)) H):cy K true (.ref a) (.ref b) H Q:=by unfold cy;exact .inr ⟨n,c,h,hn,.inr (.inl λz=>ne (V.ref.inj z)),q⟩
def eq_self (h:nq K H a)(q:Q (.bl true) H):cy K false (.ref a) (.ref a) H Q:=by unfold cy;exact .inr ⟨1,true,.same a,by decide,.inr (.inr (.inl ⟨rfl,a,rfl,h⟩)),q⟩
def ne_self (h:nB K H a)(q:Q (.bl false) H):cy K true (.ref a) (.ref a) H Q:=by unfold cy;exact .inr ⟨1,true,.same a,by decide,.inr (.inr (.inr ⟨rfl,a,rfl,h⟩)),q⟩
def fL (h:tyName x H=some t):eu K H (n+1) x x true:=by
 have key:ay x=true->eu K H (n+1) x x true:=λf=>by
  have:=eu.flat (K:=K) (H:=H) (n:=n+1) f f
  rwa [a8 f]at this
 cases x<;>first|exact key rfl|exact .same _|(cases h)
def all_true (n:Nat):(List.range n).all (λ_=>true)=true:=by simp
def fk {b:Addr}(h1:H a=some (.lst xs))(h2:H b=some (.lst xs))(h:∀ x ∈ xs,∃ t,tyName x H=some t):eu K H (n+2) (.ref a) (.ref b) true:=by
 have:=eu.ll (K:=K) (n:=n) (e:=λ_=>true) (aN.of h1) (aN.of h2) rfl λj x y e1 e2=>by
  rw[e1]at e2;cases e2;obtain⟨t,ht⟩:=h x (cr e1);exact fL ht
 rwa [all_true]at this
def A5 {b:Addr}{ys:List V}(h1:H a=some (.lst xs))(h2:H b=some (.lst ys))(hl:xs.length=ys.length)(h:∀ (j:Nat) x y,xs[j]? =some x->ys[j]? =some y->eu K H (n+1) x y true):eu K H (n+2) (.ref a) (.ref b) true:=by
 have:=eu.ll (K:=K) (n:=n) (e:=λ_=>true) (aN.of h1) (aN.of h2) hl h
 rwa [all_true]at this
def k6 {b:Addr}{ys:List V}(h1:H a=some (.tup xs))(h2:H b=some (.tup ys))(hl:xs.length=ys.length)(h:∀ (j:Nat) x y,xs[j]? =some x->ys[j]? =some y->eu K H (n+1) x y true):eu K H (n+2) (.ref a) (.ref b) true:=by
 have:=eu.tt (K:=K) (n:=n) (e:=λ_=>true) (ba.of h1) (ba.of h2) h;rw[all_true,hl]at this;simpa using this
end
variable {K:W.Frag}{rest:St}{te:TE}
section
variable {D:Ends}{F:(St->Hp->Prop)->V->St->Hp->Prop}{U:St}{H:Hp}
def dN {lo:Int}(I:Nat->St->Hp->Prop)(h0:I 0 U H)(hs:∀ j U H,j<n->I j U H->F (I (j+1)) (.int (lo+j)) U H) (hd:∀ U H,I n U H->D.nx U H):i5 (zH lo n) D F U H:=by
 unfold i5;refine⟨λi m U H=>m=n-i/\i<=n/\I i U H,⟨n,by simp,Nat.zero_le _,h0⟩,λi m U H ⟨e,hi,h⟩=>?_⟩
 by_cases hlt:i<n
 .refine .inr ⟨hlt,I (i+1),λσ' H' h'=>⟨n-(i+1),by omega,rfl,hlt,h'⟩,λx H' y=>?_⟩;obtain⟨rfl,rfl⟩:=y;exact hs i U H' hlt h
 .have:i=n:=by omega
  subst this;exact .inl ⟨pi _,hd U H h⟩
def qw (I:Nat->St->Hp->Prop)(h0:I 0 U H)(hl:∀ j U H,I j U H->aN K H a xs)
  (hs:∀ j x U H,xs[j]? =some x->I j U H->F (I (j+1)) x U H) (hd:∀ U H,I xs.length U H->D.nx U H):i5 (Bt K a) D F U H:=by
 unfold i5;refine⟨λi m U H=>m=xs.length-i/\i<=xs.length/\I i U H,⟨xs.length,by simp,Nat.zero_le _,h0⟩,λi m U H ⟨e,hi',h⟩=>?_⟩
 by_cases hlt:i<xs.length
 .refine .inr ⟨⟨xs,xs[i],hl i U H h,le hlt⟩,I (i+1),λσ' H' h'=>⟨xs.length-(i+1),by omega,rfl,hlt,h'⟩,λx H' y=>?_⟩;obtain⟨rfl,hy⟩:=y;exact hs i x U H' (hy xs (hl i U H' h)) h
 .have:i=xs.length:=by omega
  subst this;exact .inl ⟨⟨xs,hl _ U H h,pi _⟩,hd U H h⟩
def jS (I:Nat->St->Hp->Prop)(h0:I 0 U H)(hl:∀ j U H,I j U H->H a=some (.lst xs)) (hs:∀ j x T U H,xs[j]? =some x->I j U H->H T=none->F (I (j+1)) (.ref T) U (upd H T (.tup [.int j,x])))
  (hd:∀ U H,I xs.length U H->D.nx U H):i5 (DG a) D F U H:=by
 unfold i5;refine⟨λi m U H=>m=xs.length-i/\i<=xs.length/\I i U H,⟨xs.length,by simp,Nat.zero_le _,h0⟩,λi m U H ⟨e,hi',h⟩=>?_⟩
 by_cases hlt:i<xs.length
 .refine .inr ⟨⟨xs,xs[i],hl i U H h,le hlt⟩,I (i+1),λσ' H' h'=>⟨xs.length-(i+1),by omega,rfl,hlt,h'⟩,λx H' y=>?_⟩;obtain⟨T,z,hT,rfl,rfl,hy⟩:=y;exact hs i z T U H (hy xs (hl i U H h)) h hT
 .have:i=xs.length:=by omega
  subst this;exact .inl ⟨⟨xs,hl _ U H h,pi _⟩,hd U H h⟩
@[irreducible] noncomputable def pz (I:Addr->List V->Hp->Prop) (D:Addr) (ys:List V) (rest:St) (x:Option V):VK:=λv H3=>∃ zs,H3 D=some (.lst zs)/\zs.length<bn/\∃ ys2 x2,x::rest=x2::rest/\ys2.length=ys.length+1/\I D ys2 (upd H3 D (.lst (zs++[v])))
def pz.mk {I:Addr->List V->Hp->Prop}{D:Addr}{ys:List V}{x:Option V}{H3:Hp}(h1:H3 D=some (.lst ys))(hl:ys.length<=999)(h2:I D (ys++[v]) (upd H3 D (.lst (ys++[v])))):pz I D ys rest x v H3:=
 by unfold pz;exact⟨ys,h1,dZ nofun,ys++[v],x,rfl,by simp,h2⟩
def oZ (hn:n<=1000)(I:Addr->List V->Hp->Prop)(h0:∀ D,H D=none->I D [] (upd H D (.lst [])))
  (hs:∀ D ys H',ys.length<n->I D ys H'->te (some (.int (0+(ys.length:Nat)))::rest) H' (pz I D ys rest (some (.int (0+(ys.length:Nat))))))
  (hd:∀ D ys H',ys.length=n->I D ys H'->Q (.ref D) H'):nV te (zH 0 n) (none::rest) H Q:=by
 unfold nV;intro D hD;refine⟨λi m σ' H'=>m=n-i/\i<=n/\∃ ys x0,σ'=x0::rest/\ys.length=i/\I D ys H',⟨n,by simp,Nat.zero_le _,[],none,rfl,rfl,h0 D hD⟩,λi m σ' H' ⟨e,hi,ys,x0,e1,e2,h⟩=>?_⟩;subst e1 e2
 by_cases hlt:ys.length<n
 .refine .inr ⟨hlt,λσ2 H2=>∃ ys2 x2,σ2=x2::rest/\ys2.length=ys.length+1/\I D ys2 H2,λσ2 H2 ⟨ys2,x2,f1,f2,f3⟩=>⟨n-(ys.length+1),by omega,rfl,hlt,ys2,x2,f1,f2,f3⟩,λx H'' y=>?_⟩;obtain⟨e1,e2⟩:=y;subst e1 e2;have z:=hs D ys H'' hlt h;unfold pz at z;exact z
 .have:ys.length=n:=by omega
  exact .inl ⟨Nat.le_of_eq this.symm,hd D ys H' this h⟩
def zP (hn:xs.length<=1000)(I:Addr->List V->Hp->Prop)(hl:∀ D ys H,I D ys H->aN K H a xs) (h0:∀ D,H D=none->I D [] (upd H D (.lst [])))
  (hs:∀ D ys x H',xs[ys.length]? =some x->I D ys H'->te (some x::rest) H' (pz I D ys rest (some x)))
  (hd:∀ D ys H',ys.length=xs.length->I D ys H'->Q (.ref D) H'):nV te (Bt K a) (none::rest) H Q:=by
 unfold nV;intro D hD;refine⟨λi m σ' H'=>m=xs.length-i/\i<=xs.length/\∃ ys x0,σ'=x0::rest/\ys.length=i/\I D ys H',⟨xs.length,by simp,Nat.zero_le _,[],none,rfl,rfl,h0 D hD⟩,λi m σ' H' ⟨e,hi,ys,x0,e1,e2,h⟩=>?_⟩;subst e1 e2
 by_cases hlt:ys.length<xs.length
 .refine .inr ⟨⟨xs,xs[ys.length],hl D ys H' h,le hlt⟩,λσ2 H2=>∃ ys2 x2,σ2=x2::rest/\ys2.length=ys.length+1/\I D ys2 H2,λσ2 H2 ⟨ys2,x2,f1,f2,f3⟩=>⟨xs.length-(ys.length+1),by omega,rfl,hlt,ys2,x2,f1,f2,f3⟩,λx H'' y=>?_⟩;obtain⟨e1,hy⟩:=y;subst e1;have z:=hs D ys x H'' (hy xs (hl D ys H'' h)) h;unfold pz at z;exact z
 .have:ys.length=xs.length:=by omega
  exact .inl ⟨⟨xs,hl D ys H' h,Nat.le_of_eq this.symm⟩,hd D ys H' this h⟩
def Bz (q:Q (.bl (decide (x=.non))) H):vS false x .non H Q:=by unfold vS;exact q
def wk (q:Q (.bl (!decide (x=.non))) H):vS true x .non H Q:=by unfold vS;exact q
def Ds (e:ba K H a xs)(fx:ay x=true)(fs:xs.all ay=true)(q:Q (.bl (Cb x xs)) H):CP K false x (.ref a) H Q:=by unfold CP;exact .inl ⟨xs,.inr e,fx,fs,q⟩
end
section
variable {K:W.Frag}{G:Gx}{O Γ':List aq}{H:Hp}{Q:VK}{a b:Addr}{xs ys:List V}{v:V}
def E9 {tp1 tp2:Bool}(h1:Sq K tp1 H a xs)(h2:Sq K tp2 H b ys)(h:R (Eg K tp1 a tp2 b) H):xF K (.ref a) (.ref b) H R:=by unfold xF;exact⟨tp1,a,tp2,b,rfl,rfl,⟨xs,h1⟩,⟨ys,h2⟩,h⟩
def yl {D:Ends}{F:(St->Hp->Prop)->V->St->Hp->Prop}{U:St}{tp1 tp2:Bool}(I:Nat->St->Hp->Prop)(hn:xs.length=ys.length)(h0:I 0 U H)(hl:∀ j U H,I j U H->Sq K tp1 H a xs/\Sq K tp2 H b ys)
  (hs:∀ j x y T U H,xs[j]? =some x->ys[j]? =some y->I j U H->H T=none->F (I (j+1)) (.ref T) U (upd H T (.tup [x,y]))) (hd:∀ U H,I xs.length U H->D.nx U H):i5 (Eg K tp1 a tp2 b) D F U H:=by
 unfold i5;refine⟨λi m U H=>m=xs.length-i/\i<=xs.length/\I i U H,⟨xs.length,by simp,Nat.zero_le _,h0⟩,λi m U H ⟨e,hi',h⟩=>?_⟩
 by_cases hlt:i<xs.length
 .obtain⟨g1,g2⟩:=hl i U H h;refine .inr ⟨⟨xs,ys,xs[i],ys[i]'(hn▸hlt),g1,g2,le hlt,le (hn▸hlt)⟩,I (i+1),λσ' H' h'=>⟨xs.length-(i+1),by omega,rfl,hlt,h'⟩,λx H' y=>?_⟩;obtain⟨T,z,z',hT,rfl,rfl,hy,hy'⟩:=y;exact hs i z z' T U H (hy xs g1) (hy' ys g2) h hT
 .have:i=xs.length:=by omega
  subst this;obtain⟨g1,g2⟩:=hl _ U H h;exact .inl ⟨⟨xs,ys,g1,g2,.inl (pi _)⟩,hd U H h⟩
def Dv {tp1 tp2:Bool}{ks:List Key}(s:Sep O H)(h1:Sq K tp1 H a (ks.map kV))(h2:Sq K tp2 H b ys)(hn:ks.Nodup)(hl:ks.length=ys.length)(hz:ks.length<=1000)(h:∀ p H',Sep (pt p (.dK (ks.zip ys))::O) H'->Q (.ref p) H'):CV K (.ref a) (.ref b) H Q:=by unfold CV;exact⟨tp1,a,tp2,b,ks,ys,rfl,rfl,h1,h2,hn,hl,hz,al s h⟩
def lM {k:Key}(e:H a=some (.dK kvs))(hv:gB kvs k=some v)(q:Q v H):nh K (.ref a) (kV k) H Q:=by unfold nh;exact .inr (.inl ⟨v,.inl ⟨kvs,k,.inl e,rfl,hv.symm⟩,q⟩)
def xS (s:Sep O H)(e:H a=some (.dK kvs))(h:∀ p H',Sep (pt p (.dK kvs)::O) H'->Q (.ref p) H'):o6 G .dict [.ref a] H Q:=by unfold o6;exact⟨_,kvs,rfl,e,al s h⟩
def uN (hn:xs.length<=1000)(I:Addr->List V->Hp->Prop)(hl:∀ D ys H,I D ys H->ba K H a xs) (h0:∀ D,H D=none->I D [] (upd H D (.lst [])))
  (hs:∀ D ys x H',xs[ys.length]? =some x->I D ys H'->te (some x::rest) H' (pz I D ys rest (some x)))
  (hd:∀ D ys H',ys.length=xs.length->I D ys H'->Q (.ref D) H'):nV te (sG K a) (none::rest) H Q:=by
 unfold nV;intro D hD;refine⟨λi m σ' H'=>m=xs.length-i/\i<=xs.length/\∃ ys x0,σ'=x0::rest/\ys.length=i/\I D ys H',⟨xs.length,by simp,Nat.zero_le _,[],none,rfl,rfl,h0 D hD⟩,λi m σ' H' ⟨e,hi,ys,x0,e1,e2,h⟩=>?_⟩;subst e1 e2
 by_cases hlt:ys.length<xs.length
 .refine .inr ⟨⟨xs,xs[ys.length],hl D ys H' h,le hlt⟩,λσ2 H2=>∃ ys2 x2,σ2=x2::rest/\ys2.length=ys.length+1/\I D ys2 H2,λσ2 H2 ⟨ys2,x2,f1,f2,f3⟩=>⟨xs.length-(ys.length+1),by omega,rfl,hlt,ys2,x2,f1,f2,f3⟩,λx H'' y=>?_⟩;obtain⟨e1,hy⟩:=y;subst e1;have z:=hs D ys x H'' (hy xs (hl D ys H'' h)) h;unfold pz at z;exact z
 .have:ys.length=xs.length:=by omega
  exact .inl ⟨⟨xs,hl D ys H' h,Nat.le_of_eq this.symm⟩,hd D ys H' this h⟩
def CI (e:ba K H a xs)(h:R (sG K a) H):oB K a H R:=by unfold oB;exact .inr (.inl ⟨⟨xs,e⟩,h⟩)
def DC {C:Addr}(s:Sep O H)(h:∀ x dx H',Sep (pt x (.ins C dx [])::pt dx (.own x)::O) H'->Q (.ref x) H'):vE C H Q:=by unfold vE;exact λx dx h1 h2 h3=>h x dx _ (d4 s h1 h2 h3)
end
end L3
namespace L3
open PySem PySem.Spec PySem.W L2
variable {ps:List Str}
def uO:∀ {us:List Value}{n:Str},us.length=ps.length->n ∈ ps->((ps.zip us).lookup n).isNone=false:=by
 induction ps with
 |nil=>intro us n _ h;cases h
 |cons p ps ih=>
  intro us n hl h;cases us with
  |nil=>cases hl
  |cons u us=>
   rw[zip_cons_cons,lookup_cons];cases e:n ==p with
   |true=>rfl
   |false=>
    rcases lv.mp h with rfl|h
    .rw[beq_self_eq_true]at e;cases e
    .exact ih (Nat.succ.inj hl) h
def nH:∀ {ps:List Str}{us:List Value},ps.Nodup->us.length=ps.length->∀ {L:List (Str×Value)},(∀ n ∈ ps,L.lookup n=(ps.zip us).lookup n)->ps.filterMap (λn=>(L.lookup n).map (n,·))=ps.zip us
 | [],us,_,_,L,_=>rfl
 |p::ps,[],_,hl,L,_=>by cases hl
 |p::ps,u::us,nd,hl,L,hL=>by
  have h0:L.lookup p=some u:=by rw[hL p li,zip_cons_cons,lookup_cons,beq_self_eq_true]
  rw[filterMap_cons,h0,zip_cons_cons];show(p,u)::_=_;rw[nH (nodup_cons.mp nd).2 (Nat.succ.inj hl) (L:=L)];intro n hn;rw[hL n (dl _ hn),zip_cons_cons,lookup_cons];have:(n ==p)=false:=by
   cases e:n ==p with
   |false=>rfl
   |true=>
    have:=beq_iff_eq.mp e;subst this;exact absurd hn (nodup_cons.mp nd).1
  rw[this]
variable {fd:FuncData}
def lW (nd:ps.Nodup)(h1:fd.params.posonlyargs=[])(h2:fd.params.args.map (·.arg)=ps)(h3:fd.params.kwonlyargs=[])(h4:fd.params.vararg=none)(h5:fd.params.kwarg=none)(h6:fd.defaults=.none)(us:List Value)(hl:us.length=ps.length):
  bindArgs fd ⟨us,[]⟩=pure (ps.zip us):=by
 obtain⟨name,qual,⟨po,as,va,ko,kd,ka,df⟩,body,scope,glo,bJ,dV,kV,doc,pm,an,cdv,ct,bu⟩:=fd;dsimp only at h1 h2 h3 h4 h5 h6;subst h1 h2 h3 h4 h5 h6;generalize hps:as.map (·.arg)=ps at nd hl⊢;have e1:seqItems? (Value.none)=(pure none:Sem (Option (Array Value))):=rfl;have e2:∀ f:Str->Bool,(∀ n ∈ ps,f n=false)->ps.filter f=[]:=λf h=>List.filter_eq_nil_iff.mpr λa ha=>by rw[h a ha];decide
 have e3:¬ (us.length>ps.length):=by omega
 have e4:=e2 (λn=>((ps.zip us).lookup n).isNone) λn hn=>uO hl hn
 have e5:=nH nd hl (L:=ps.zip us) λ_ _=>rfl
 unfold bindArgs;dsimp only[List.map_nil,nil_append,append_nil];rw[hps];simp[e1,e3,e4,e5]
abbrev gD (S:List (Str×Value))(x:Str×Value):List (Str×Value):=if(S.lookup x.1).isNone=true then S++[x] else S
def zt:∀ {L:List (Str×Value)}{S:List (Str×Value)},(∀ x ∈ L,(S.lookup x.1).isNone=false)->L.foldl gD S=S
 | [],_,_=>rfl
 |x::L,S,h=>by
  have h0:gD S x=S:=by
   unfold gD;rw[if_neg (by rw[h x li];decide)]
  rw[foldl_cons,h0];exact zt λy hy=>h y (dl _ hy)
def zK:∀ {L:List (Str×Value)}{S:List (Str×Value)},(L.map (·.1)).Nodup->(∀ x ∈ L,S.lookup x.1=none)->L.foldl gD S=S++L
 | [],S,_,_=>by rw[append_nil];rfl
 |x::L,S,nd,h=>by
  have h0:gD S x=S++[x]:=by
   unfold gD;rw[if_pos (by rw[h x li];rfl)]
  rw[map_cons]at nd;rw[foldl_cons,h0,zK (nodup_cons.mp nd).2]
  .rw[jp];rfl
  .intro y hy;have hne:(y.1 ==x.1)=false:=by
    cases e:y.1 ==x.1 with
    |false=>rfl
    |true=>
     have e:=beq_iff_eq.mp e;exact absurd (List.mem_map_of_mem (f:=(·.1)) hy) (e▸(nodup_cons.mp nd).1)
   obtain⟨a,b⟩:=x;rw[List.lookup_append,h y (dl _ hy),lookup_cons,hne]
   rfl
def yY {n:Str}:∀ {L:List (Str×Value)},(∀ x ∈ L,x.1≠n)->L.lookup n=none
 | [],_=>rfl
 |(a,b)::L,h=>by
  have:(n ==a)=false:=by
   cases e:n ==a with
   |false=>rfl
   |true=>exact absurd (beq_iff_eq.mp e).symm (h (a,b) li)
  rw[lookup_cons,this];exact yY λx hx=>h x (dl _ hx)
variable {A:List Str}{B:List Value}
def jQ {x:Str×Value}(h:x ∈ A.zip B):x.1 ∈ A:=by
 obtain⟨a,b⟩:=x;exact(of_mem_zip h).1
def zip_map (h:A.length<=B.length):(A.zip B).map (·.1)=A:=List.map_fst_zip h
def kU {B:List Str}{us:List Value}(h:A.length=us.length):(A++B).zip us=A.zip us:=by
 have:=zip_append (l₁:=A) (l₂:=us) (r₁:=B) (r₂:=[]) h;rw[append_nil,List.zip_nil_right,append_nil]at this;exact this
def xo {B:List Str}{us D1 D2:List Value}(nd:(A++B).Nodup)(h1:A.length=us.length)(h2:B.length=D2.length)(h3:D1.length<=A.length):
  (((A++B).drop (A.length-D1.length)).zip (D1++D2)).foldl gD ((A++B).zip us)=(A++B).zip (us++D2):=by
 have a:=zt (L:=(A.drop (A.length-D1.length)).zip D1) (S:=(A++B).zip us) λx hx=>by
  rw[kU h1];exact uO h1.symm (List.mem_of_mem_drop (jQ hx))
 have b:=zK (L:=B.zip D2) (S:=(A++B).zip us) (by rw[zip_map nofun];exact(List.nodup_append.mp nd).2.1) λx hx=>by
  refine yY λy hy e=>?_
  rw[kU h1]at hy;exact(List.nodup_append.mp nd).2.2 y.1 (jQ hy) x.1 (jQ hx) e
 rw[List.drop_append_of_le_length nofun,zip_append (by rw[io];omega),List.foldl_append,a,b,kU h1,zip_append h1]
def tw {us ds:List Value}(nd:ps.Nodup)(h1:us.length<=ps.length)(h2:ds.length<=ps.length)(h3:ps.length<=us.length+ds.length):
  ((ps.drop (ps.length-ds.length)).zip ds).foldl gD (ps.zip us)=ps.zip (us++ds.drop (us.length+ds.length-ps.length)):=by
 have nd2:(ps.take us.length++ps.drop us.length).Nodup:=by rw[take_append_drop];exact nd
 have:=xo (A:=ps.take us.length) (B:=ps.drop us.length) (us:=us) (D1:=ds.take (us.length+ds.length-ps.length)) (D2:=ds.drop (us.length+ds.length-ps.length)) nd2 (by rw[db];omega) (by rw[io,io];omega) (by rw[db,db];omega);rw[take_append_drop,take_append_drop,db,db]at this;rw[show min us.length ps.length-min (us.length+ds.length-ps.length) ds.length=ps.length-ds.length by omega]at this;exact this
def mC:∀ {L:List (Str×Value)}{S:List (Str×Value)},(forIn L S λx r=>(match x with|(name,d)=>if(r.lookup name).isNone=true then pure (ForInStep.yield (r++[(name,d)])) else pure (ForInStep.yield r):Sem (ForInStep (List (Str×Value)))))=pure (L.foldl gD S)
 | [],S=>by simp
 |(a,b)::L,S=>by
  rw[forIn_cons,foldl_cons,<-mC];unfold gD
  by_cases e:(S.lookup a).isNone=true
  .simp only[e,if_true,pure_bind]
  .simp only[e,if_false,pure_bind,Bool.false_eq_true]
def uy {T:Addr}{items:Array Value}(nd:ps.Nodup)(h1:fd.params.posonlyargs=[])(h2:fd.params.args.map (·.arg)=ps)(h3:fd.params.kwonlyargs=[])(h4:fd.params.vararg=none)(h5:fd.params.kwarg=none)(h6:fd.defaults=.ref T)(us:List Value)(l1:us.length<=ps.length)(l2:items.toList.length<=ps.length)(l3:ps.length<=us.length+items.toList.length):
  ∃ k:Option (Array Value)->Sem (List (Str×Value)),bindArgs fd ⟨us,[]⟩=seqItems? fd.defaults >>= k/\k (some items)=pure (ps.zip (us++items.toList.drop (us.length+items.toList.length-ps.length))):=by
 obtain⟨name,qual,⟨po,as,va,ko,kd,ka,df⟩,body,scope,glo,bJ,dV,kV,doc,pm,an,cdv,ct,bu⟩:=fd;dsimp only at h1 h2 h3 h4 h5 h6;subst h1 h2 h3 h4 h5 h6;generalize hps:as.map (·.arg)=ps at nd l1 l2 l3⊢;have e2:∀ f:Str->Bool,(∀ n ∈ ps.take (ps.length-items.toList.length),f n=false)->(ps.take (ps.length-items.toList.length)).filter f=[]:=λf h=>List.filter_eq_nil_iff.mpr λa ha=>by rw[h a ha];decide
 have e3:¬ (us.length>ps.length):=by omega
 have ez:ps.zip us=(ps.take us.length).zip us:=by
  have:=kU (A:=ps.take us.length) (B:=ps.drop us.length) (us:=us) (by rw[db];omega);rw[take_append_drop]at this;exact this
 have e4:=e2 (λn=>((ps.zip us).lookup n).isNone) λn hn=>by
  rw[ez];refine uO (by rw[db];omega) ?_;have:ps.take (ps.length-items.toList.length)=(ps.take us.length).take (ps.length-items.toList.length):=by rw[List.take_take,Nat.min_eq_left nofun]
  rw[this]at hn;exact List.mem_of_mem_take hn
 have e6:=tw (us:=us) (ds:=items.toList) nd l1 l2 l3;have e5:=nH (us:=us++items.toList.drop (us.length+items.toList.length-ps.length)) nd (by rw[ci,io];omega) λ_ _=>rfl
 have e7:items.toList.length-ps.length=0:=by omega
 unfold bindArgs;dsimp only[List.map_nil,nil_append,append_nil];rw[hps];refine⟨_,rfl,?_⟩;simp only[Option.getD_some,List.map_nil,nil_append,e7,drop_zero,e4,e3,List.isEmpty_nil,Bool.not_true,decide_false,Bool.false_and,Bool.false_eq_true,if_false,forIn_nil,append_nil];rw[mC,e6,pure_bind,pure_bind];simp only[e5,List.isEmpty_nil,Bool.not_true,Bool.false_eq_true,if_false]
abbrev zg (x:Option (Option Value))(a:Addr):Bool:=match x with
 |some (some (.ref b))=>b ==a
 |_=>false
variable {x:Option (Option Value)}
def et {a:Addr}(h:zg x a=true):x=some (some (.ref a)):=by
 unfold zg at h
 split at h
 .rw[beq_iff_eq.mp h]
 .cases h
abbrev nj (x:Option (Option Value))(a:String):Bool:=match x with
 |some (some (.builtin b))=>b ==a
 |_=>false
variable {a:String}
def bP (h:nj x a=true):x=some (some (.builtin a)):=by
 unfold nj at h
 split at h
 .rw[beq_iff_eq.mp h]
 .cases h
abbrev E7 (x:Option Value)(a:String):Bool:=match x with
 |some (.type b)=>b ==a
 |_=>false
def Bu {x:Option Value}(h:E7 x a=true):x=some (.type a):=by
 unfold E7 at h
 split at h
 .rw[beq_iff_eq.mp h]
 .cases h
abbrev vO (x:Option (Option Value)):Bool:=match x with
 |some none=>true
 |_=>false
def kf (h:vO x=true):x=some none:=by
 unfold vO at h
 split at h
 .rfl
 .cases h
abbrev yk (x:Option Bool)(b:Bool):Bool:=match x with
 |some c=>c ==b
 |none=>false
def dI {x:Option Bool}{b:Bool}(h:yk x b=true):x=some b:=by
 unfold yk at h
 split at h
 .rw[beq_iff_eq.mp h]
 .cases h
abbrev EA (v:V)(x:Option (Option Value)):Bool:=match v,x with
 | .int i,some (some (.int j _))=>i ==j
 | .str s,some (some (.str s' _))=>s ==s'
 | .ref a,y=>zg y a
 |_,_=>false
def AM {v:V}(h:EA v x=true):∃ u,x=some (some u)/\RelV v u:=by
 unfold EA at h
 split at h
 .rw[<-beq_iff_eq.mp h];exact⟨_,rfl,_,rfl⟩
 .rw[<-beq_iff_eq.mp h];exact⟨_,rfl,_,rfl⟩
 .rw[et h];exact⟨_,rfl,rfl⟩
 .cases h
section
variable (K:Frag) (C:Addr)
abbrev yE:Bool:=plainGet K C Str.empty&&(hasDictIn K C&&(plainOver K C&&nj (findIn K (.ref C) "__setattr__") "object.__setattr__"))
def qi {K:Frag}{C:Addr}(h:yE K C=true):xj K C:=by
 unfold yE at h;simp only[lw]at h;exact⟨h.1,h.2.1,h.2.2.1,bP h.2.2.2⟩
abbrev xx:Bool:=nj (findIn K (.ref C) "__class__") "object.__class__"&&(nj (specialIn K (.builtin "object.__class__") "__get__") "getset_descriptor.__get__"&&yk (takesIn K (.builtin "object.__class__")) true)
abbrev lZ:Bool:=E7 (typeIn K (.ref C)) "type"&&((clsIn K C).any (λcd=>cT cd.mro)&&(hasDictIn K C&&(nj (findIn K (.ref C) "__getattribute__") "BaseException.__getattribute__"&&(vO (findIn K (.ref C) "__getattr__")&&nj (findIn K (.ref C) "__setattr__") "object.__setattr__"))))
def g8 {K:Frag}{C:Addr}(h:lZ K C=true):b9 K C:=by
 unfold lZ at h;simp only[lw]at h;exact⟨Bu h.1,h.2.1,h.2.2.1,bP h.2.2.2.1,kf h.2.2.2.2.1,bP h.2.2.2.2.2⟩
end
abbrev all2 {α:Type}(l:List α)(p:α->Bool):Bool:=match l with
 | []=>true
 |a::r=>p a&&all2 r p
def au {α:Type}{p:α->Bool}:∀ {l:List α},all2 l p=true->∀ a ∈ l,p a=true
 | [],_,_,h=>by cases h
 |a::r,h,b,hb=>by
  unfold all2 at h;rw[lw]at h;rcases lv.mp hb with rfl|hb
  .exact h.1
  .exact au h.2 b hb
abbrev Bh (K:Frag)(fs cs:List Addr)(gs:List (Str×V)):Rt:=⟨K,λi=>fs.getD i 0,λi=>cs.getD i 0,λx=>gs.lookup x⟩
section
variable (K:Frag) (T:Tab) (fs cs:List Addr) (gs:List (Str×V))
abbrev yI:Bool:=
 (all2 T.gfn (λp=>zg (nsIn K mainGlobals p.1) (fs.getD p.2 0)&&(keepIn K (.ref (fs.getD p.2 0))&&(T.fns[p.2]?).isSome))&&
 (all2 T.gcl (λp=>zg (nsIn K mainGlobals p.1) (cs.getD p.2 0))&&
 (all2 T.gbl (λx=>vO (nsIn K mainGlobals x)&& !(x ==("__name__":Str)))&&
 (all2 T.gbi (λx=>match nsIn K mainGlobals x with
  |some (some (.ref B))=>nj (specialIn K (.ref B) "__getattribute__") "type.__getattribute__"&&(readsIn K B (.type "type")&&(match findCls K (.ref B) (.type "type") "__init__" with|some (.val (.builtin n))=>n =="ValueError.__init__"|_=>false))
  |_=>false)&&
 (all2 gs (λp=>EA p.2 (nsIn K mainGlobals p.1))&&
 (all2 T.na (λp=>vO (findIn K (.ref (cs.getD p.1 0)) p.2))&&
 (all2 T.me (λp=>yE K (cs.getD p.1.1 0)&&(zg (findIn K (.ref (cs.getD p.1.1 0)) p.1.2) (fs.getD p.2 0)&&(isFn K (.ref (fs.getD p.2 0))&&(keepIn K (.ref (fs.getD p.2 0))&&(T.fns[p.2]?).isSome)))))))))))&&
 (all2 T.ini0 (λc=>bB K (cs.getD c 0)&&(nj (findIn K (.ref (cs.getD c 0)) "__init__") "ValueError.__init__"&&(keepIn K (.ref (cs.getD c 0))&&lZ K (cs.getD c 0))))&&
 (all2 T.inip (λc=>makesIn K (cs.getD c 0)&&(nj (findIn K (.ref (cs.getD c 0)) "__init__") "object.__init__"&&keepIn K (.ref (cs.getD c 0))))&&
 (all2 T.ini (λp=>(T.fns[p.2]?).isSome&&((if T.xc.contains p.1=true then bB K (cs.getD p.1 0) else makesIn K (cs.getD p.1 0))&&(zg (findIn K (.ref (cs.getD p.1 0)) "__init__") (fs.getD p.2 0)&&(isFn K (.ref (fs.getD p.2 0))&&keepIn K (.ref (cs.getD p.1 0))))))&&
 (all2 T.oc (λc=>yE K (cs.getD c 0)&&(xx K (cs.getD c 0)&&yk (mroIn K (cs.getD c 0) (.type "object")) true))&&
 (all2 T.xc (λc=>lZ K (cs.getD c 0)&&xx K (cs.getD c 0))&&
 (all2 T.sub (λp=>yk (kitOne K (.ref (cs.getD p.1.1 0)) (.ref (cs.getD p.1.2 0))) p.2&&(!T.xc.contains p.1.1||(yk (mroIn K (cs.getD p.1.1 0) (.ref (cs.getD p.1.2 0))) p.2&&lZ K (cs.getD p.1.2 0))))&&
 (all2 T.subT (λp=>yk (kitOne K (.ref (cs.getD p.1.1 0)) (.type p.1.2)) p.2)&&
 (all2 T.subB (λp=>yk (kitOne K (.type p.1.1) (.type p.1.2)) p.2)&&
 (all2 T.subO (λp=>yk (kitOne K (.type p.1.1) (.ref (cs.getD p.1.2 0))) p.2)&&
  all2 T.cin (λp=>nj (specialIn K (.ref (cs.getD p.1 0)) "__getattribute__") "type.__getattribute__"&&(readsIn K (cs.getD p.1 0) (.type "type")&&((match findCls K (.ref (cs.getD p.1 0)) (.type "type") "__init__" with|some (.val (.ref f))=>f ==fs.getD p.2 0|_=>false)&&(keepIn K (.ref (fs.getD p.2 0))&&(T.fns[p.2]?).isSome)))))))))))))
end
def gR {α:Type}{x:Option α}(h:x.isSome=true):∃ d,x=some d:=Option.isSome_iff_exists.mp h
variable {K:Frag}{T:Tab}{fs:List Addr}{gs:List (Str×V)}{mg:GF}
def yr {cs:List Addr}{h:Heap}(X:K.In h)(G:h.Ns mainGlobals mg)(z:yI K T fs cs gs=true):wV K mg T (Bh K fs cs gs):=by
 unfold yI at z;simp only[lw]at z;obtain⟨⟨z1,z2,z3,z4,z5,z6,z7⟩,z8,z9,z10,z11,z12,z13,z14,z15,z16,z17⟩:=z;exact {
  gfn:=g5 λp hp=>by
   have:=au z1 p hp;simp only[lw]at this;exact⟨mg_of X G (et this.1),this.2.1,gR this.2.2⟩
  gcl:=g5 λp hp=>mg_of X G (et (au z2 p hp))
  gbl:=fY λx hx=>by
   have:=au z3 x hx;simp only[lw]at this;exact⟨mg_none_of X G (kf this.1),by simpa using this.2⟩
  gbi:=fY λx hx=>by
   have:=au z4 x hx
   split at this
   .rename_i B e;simp only[lw]at this;refine⟨B,mg_of X G e,bP this.1,this.2.1,?_⟩;have t:=this.2.2
    split at t
    .rename_i n e2;rw[e2,beq_iff_eq.mp t]
    .cases t
   .cases this
  gl:=g5 λp hp=>by
   obtain⟨u,e,r⟩:=AM (au z5 p hp);exact⟨u,mg_of X G e,r⟩
  na:=yQ λp hp=>kf (au z6 p hp)
  me:=eZ λp hp=>by
   have:=au z7 p hp;simp only[lw]at this;exact⟨qi this.1,⟨et this.2.1,this.2.2.1,this.2.2.2.1⟩,gR this.2.2.2.2⟩
  ini0:=fY λc hc=>by
   have:=au z8 c hc;simp only[lw]at this;exact⟨this.1,bP this.2.1,this.2.2.1,g8 this.2.2.2⟩
  inip:=fY λc hc=>by
   have:=au z9 c hc;simp only[lw]at this;exact⟨this.1,bP this.2.1,this.2.2⟩
  ini:=g5 λp hp=>by
   have:=au z10 p hp;simp only[lw]at this;refine⟨gR this.1,?_⟩;have t:=this.2
   by_cases e:T.xc.contains p.1=true
   .rw[if_pos e]at t⊢;exact⟨t.1,et t.2.1,t.2.2.1,t.2.2.2⟩
   .rw[if_neg e]at t⊢;exact⟨t.1,et t.2.1,t.2.2.1,t.2.2.2⟩
  oc:=fY λc hc=>by
   have:=au z11 c hc;simp only[xx,lw]at this;exact⟨qi this.1,bP this.2.1.1,bP this.2.1.2.1,dI this.2.1.2.2,dI this.2.2⟩
  xc:=fY λc hc=>by
   have:=au z12 c hc;simp only[xx,lw]at this;exact⟨g8 this.1,bP this.2.1,bP this.2.2.1,dI this.2.2.2⟩
  sub:=eZ λp hp=>by
   have:=au z13 p hp;simp only[lw]at this;refine⟨dI this.1,λe=>?_⟩;have t:=this.2;rw[e,Bool.not_true,Bool.false_or,lw]at t;exact⟨dI t.1,g8 t.2⟩
  subT:=eZ λp hp=>dI (au z14 p hp)
  subB:=eZ λp hp=>dI (au z15 p hp)
  subO:=eZ λp hp=>dI (au z16 p hp)
  cin:=g5 λp hp=>by
   have:=au z17 p hp;simp only[lw]at this;refine⟨⟨bP this.1,this.2.1,?_,this.2.2.2.1⟩,gR this.2.2.2.2⟩;have t:=this.2.2.1
   split at t
   .rename_i f e2;rw[beq_iff_eq.mp t]at e2;exact e2
   .cases t }
abbrev Ek:List Str->Bool
 | []=>true
 |a::r=>!r.contains a&&Ek r
def uq:∀ {l:List Str},Ek l=true->l.Nodup
 | [],_=>List.nodup_nil
 |a::r,h=>by
  unfold Ek at h;rw[lw]at h;exact nodup_cons.mpr ⟨by simpa using h.1,uq h.2⟩
abbrev Fw (N P:List Str)(sc:Scope):Bool:=decide (sc.kind=.function)&&(!sc.isCoroutine&&(!sc.isGenerator&&(Ek N&&(N.take P.length ==P&&(all2 P (λx=>match sc.names.lookup x with|some .local=>true|some .cell=>true|_=>false)&&all2 sc.names (λy=>match y.2 with| .free=>false|_=>true))))))
def n6 {N P:List Str}{sc:Scope}(h:Fw N P sc=true):gP N P sc:=by
 unfold Fw at h;simp only[lw,decide_eq_true_eq]at h;refine⟨h.1,by simpa using h.2.1,by simpa using h.2.2.1,uq h.2.2.2.1,beq_iff_eq.mp h.2.2.2.2.1,λx hx=>?_,λy hy e=>?_⟩
 .have:=au h.2.2.2.2.2.1 x hx
  split at this
  .rename_i e;exact .inl e
  .rename_i e;exact .inr e
  .cases this
 .have:=au h.2.2.2.2.2.2 y hy;rw[e]at this;cases this
abbrev EZ:V->Value->Bool
 | .non,.none=>true
 | .bl b,.bool c=>b ==c
 | .int i,.int j _=>i ==j
 | .str s,.str s' _=>s ==s'
 |_,_=>false
def Ah {v:V}{u:Value}(h:EZ v u=true):RelV v u:=by
 unfold EZ at h
 split at h
 .rfl
 .rw[beq_iff_eq.mp h];rfl
 .rw[beq_iff_eq.mp h];exact⟨_,rfl⟩
 .rw[beq_iff_eq.mp h];exact⟨_,rfl⟩
 .cases h
abbrev tj:List V->List Value->Bool
 | [],[]=>true
 |v::vs,u::us=>EZ v u&&tj vs us
 |_,_=>false
def jO:∀ {vs:List V}{us:List Value},tj vs us=true->Vals vs us
 | [],[],_=>.nil
 |v::vs,u::us,h=>by
  unfold tj at h;rw[lw]at h;exact .cons (Ah h.1) (jO h.2)
 | [],_::_,h=>by cases h
 |_::_,[],h=>by cases h
abbrev EC (K:Frag)(fd:FuncData)(d:aw):Bool:=match fd.defaults with
 | .none=>d.dfl.isEmpty
 | .ref T=>!d.dfl.isEmpty&&(match K.lookup T with
  |some o=>(match o.data with| .seq items _=>tj d.dfl items.toList&&decide (items.toList.length<=d.ps.length)|_=>false)
  |none=>false)
 |_=>false
abbrev zu (K:Frag)(T:Tab)(f:Addr)(d:aw):Bool:=match K.lookup f with
 |some ⟨_,_,.func fd,_⟩=>(match fd.body with
  | .stmts body=>decide (fd.globals=mainGlobals)&&(fd.closure.isEmpty&&(decide (fd.builtins=builtinsNs)&&(codeIn K fd.code fd.qualname&&(Fw d.N d.ps fd.scope&&(mB ⟨T,fd.scope,d.N⟩ d.body body&&
   (fd.params.posonlyargs.isEmpty&&(fd.params.args.map (·.arg) ==d.ps&&(fd.params.kwonlyargs.isEmpty&&(fd.params.vararg.isNone&&(fd.params.kwarg.isNone&&EC K fd d))))))))))
  |_=>false)
 |_=>false
variable {d:aw}
def Al {f:Addr}(h:zu K T f d=true):qO K T f d:=by
 unfold zu at h
 split at h
 .rename_i oc od fd sl e;obtain⟨name,qual,params,body,scope,glo,bJ,dV,kV,doc,pm,an,cdv,ct,bu⟩:=fd;dsimp only at h
  split at h
  .rename_i body;simp only[lw,decide_eq_true_eq,isEmpty_iff,Option.isNone_iff_eq_none]at h;obtain⟨h1,h2,h3,h4,h5,h6,h7,h8,h9,h10,h11,h12⟩:=h;subst h1 h2 h3;have S:=n6 h5;have nd:d.ps.Nodup:=by
    rw[<-S.pre];exact S.nd.sublist (take_sublist _ _)
   refine⟨⟨name,qual,params,body,scope,dV,kV,doc,pm,cdv,ct,oc,od,an,sl,e,h4,S,h6,?_⟩⟩;unfold EC at h12;dsimp only at h12
   split at h12
   .rw[isEmpty_iff.mp h12];exact zQ (.all λus hl=>lW nd h7 (beq_iff_eq.mp h8) h9 h10 h11 rfl us hl)
   .rename_i T0;rw[lw]at h12;have h12:=h12.2
    split at h12
    .rename_i o ho
     split at h12
     .rename_i items c hs;rw[lw,decide_eq_true_eq]at h12;intro j;refine⟨items.toList.drop j,?_,jq j (jO h12.1)⟩;refine vW (n:=d.ps.length-(items.toList.drop j).length) rfl ho hs (by rw[io];omega) λus hl=>?_
      rw[io]at hl;obtain⟨k,k1,k2⟩:=uy (fd:=fnOf name qual params body scope (.ref T0) kV doc pm an cdv ct) (items:=items) nd h7 (beq_iff_eq.mp h8) h9 h10 h11 rfl us nofun h12.2 nofun;refine⟨k,k1,?_⟩;rw[k2]
      by_cases e:j<=items.toList.length
      .rw[show us.length+items.toList.length-d.ps.length=j by omega]
      .rw[show us.length+items.toList.length-d.ps.length=items.toList.length by omega,List.drop_length,List.drop_eq_nil_of_le (by omega:items.toList.length<=j)]
     .cases h12
    .cases h12
   .cases h12
  .cases h
 .cases h
abbrev jb (K:Frag)(T:Tab)(fs:List Addr):Nat->List aw->Bool
 |_,[]=>true
 |n,d::r=>zu K T (fs.getD n 0) d&&jb K T fs (n+1) r
def pX {K:Frag}{T:Tab}{fs:List Addr}:∀ {l:List aw}{n:Nat},jb K T fs n l=true->pY (λf d=>qO K T (fs.getD f 0) d) n l
 | [],_,_=>True.intro
 |d::r,n,h=>by
  unfold jb at h;rw[lw]at h;exact⟨Al h.1,pX h.2⟩
def w9 (h:jb K T fs 0 T.fns=true):∀ f d,T.fns[f]? =some d->qO K T (fs.getD f 0) d:=nU (P:=λf d=>qO K T (fs.getD f 0) d) (pX h)
def pS {K:Frag}{T:Tab}{fs:List Addr}:∀ {l:List aw}{n f:Nat}{d:aw},jb K T fs n l=true->l[f]? =some d->zu K T (fs.getD (n+f) 0) d=true
 | [],_,_,_,_,e=>by simp at e
 |a::r,n,0,d,h,e=>by
  unfold jb at h;rw[lw]at h;have:a=d:=by simpa using e
  subst this;exact h.1
 |a::r,n,f+1,d,h,e=>by
  unfold jb at h;rw[lw]at h;have:=pS h.2 (f:=f) (d:=d) (by simpa using e)
  rwa [Nat.add_assoc,Nat.add_comm 1 f]at this
def yw {fl:Nat}(z:jb K T fs 0 T.fns=true)(hd:T.fns[fl]? =some d)(hp:d.ps=[("_law_script":Str)]) (hf:d.dfl=[]):
  ∃ oc od fd sl,K.lookup (fs.getD fl 0)=some ⟨oc,od,.func fd,sl⟩/\∀ (s:Shared) (v:Value),BindsTo s fd ⟨[v],[]⟩ [("_law_script",v)]:=by
 have h:=pS z hd;rw[Nat.zero_add]at h;unfold zu at h
 split at h
 .rename_i oc od fd sl e;refine⟨oc,od,fd,sl,e,λs v=>?_⟩
  split at h
  .rename_i body hb;simp only[lw,decide_eq_true_eq,isEmpty_iff,Option.isNone_iff_eq_none]at h;obtain⟨h1,h2,h3,h4,h5,h6,h7,h8,h9,h10,h11,h12⟩:=h;have nd:d.ps.Nodup:=by
    rw[<-(n6 h5).pre];exact(n6 h5).nd.sublist (take_sublist _ _)
   unfold EC at h12;rw[hf]at h12;have e6:fd.defaults=.none:=by
    split at h12
    .rename_i e;exact e
    .rw[lw]at h12;cases h12.1
    .cases h12
   have:=lW nd h7 (beq_iff_eq.mp h8) h9 h10 h11 e6 [v] (by rw[hp];rfl);rw[hp]at this;exact .of_eq this
  .cases h
 .cases h
def xX {P:Program}{w:World}{h:Heap}{fa:Addr}{cs:List Addr}{fl k:Nat}(X:K.In h)(G:h.Ns mainGlobals mg)(hfa:mg "law"=some (.ref fa))
  (z1:yI K T fs cs gs=true) (z2:jb K T fs 0 T.fns=true) (z3:zg (nsIn K mainGlobals "law") (fs.getD fl 0)=true) (hd:T.fns[fl]? =some d) (hp:d.ps=[("_law_script":Str)]) (hf:d.dfl=[])
  (ht:∀ vs H Q E,gr K 63 vs H Q E->aa T (Bh K fs cs gs) k fl vs H Q E):
  ∃ fd:FuncData,(∀ (s:Shared) (v:Value),BindsTo s fd ⟨[v],[]⟩ [("_law_script",v)])/\∀ base:Heap,K.In base->base.Ns mainGlobals mg->cE true P w K mg base (t7 P w) (2*k) fa fd ["_law_script"] (gr K 63):=by
 have e0:fs.getD fl 0=fa:=by
  have e:=hfa.symm.trans (mg_of X G (et z3))
  injection e with e
  injection e with e
  exact e.symm
 have fn:=w9 z2;have tk:=yr X G z1;have N:=fn fl d hd;have hN:=yw z2 hd;obtain⟨oc,od,fd,sl,e,hb⟩:=hN hp hf;refine⟨fd,hb,λbase hb hg=>?_⟩;have F:=BO (P:=P) (w:=w) (base:=base) (R:=Bh K fs cs gs) tk rfl fn k fl d hd (fd:=fd) (lk:=e) (gX▸ht);rw[hp]at F;rw[<-e0];exact F
abbrev FR (K:Frag)(a:Addr)(vs:List V):Bool:=match K.lookup a with
 |some ⟨.type t,_,.seq items _,_⟩=>t =="tuple"&&(decide (items.size<=1000)&&tj vs items.toList)
 |_=>false
def uQ {a:Addr}{vs:List V}(h:FR K a vs=true)(H:Hp):ba K H a vs:=by
 unfold FR at h
 split at h
 .rename_i t od items n sl e;simp only[lw,decide_eq_true_eq]at h;refine .inr ⟨_,items,n,e,?_,rfl,?_,jO h.2.2⟩
  .show Value.type t=_;rw[beq_iff_eq.mp h.1]
  .exact Nat.le_of_lt (dZ h.2.1)
 .cases h
end L3
namespace L3
open PySem L2
noncomputable abbrev eI.c (e:Ex)(r:eI):eI:=.cons e r
noncomputable abbrev eI.n:eI:=.nil
noncomputable abbrev je.c (e:Sx)(r:je):je:=.cons e r
noncomputable abbrev je.n:je:=.nil
noncomputable abbrev vT.c (a b:Nat)(e:je)(r:vT):vT:=.cons a b e r
noncomputable abbrev vT.n:vT:=.nil
noncomputable abbrev Ex.i (x:Int):Ex:=.int x
noncomputable abbrev Ex.s (x:Str):Ex:=.str x
noncomputable abbrev Ex.k (x:Nat)(e:eI):Ex:=.call x e
noncomputable abbrev Ex.m (a:Ex)(x:Str)(e:eI):Ex:=.meth a x e
noncomputable abbrev Ex.f (c:Tx)(a b:Ex):Ex:=.ife c a b
noncomputable abbrev Ex.q (o:CmpOp)(a b:Ex):Ex:=.cmp o a b
noncomputable abbrev Tx.q (o:CmpOp)(a b:Ex):Tx:=.cmp o a b
noncomputable abbrev Sx.a (x:Nat)(e:Ex):Sx:=.asg x e
noncomputable abbrev Sx.r (e:Ex):Sx:=.ret e
noncomputable abbrev Sx.f (c:Tx)(a b:je):Sx:=.ife c a b
noncomputable abbrev Sx.e (e:Ex):Sx:=.expr e
end L3
set_option Elab.async false
set_option maxHeartbeats 8000000
open PySem PySem.Spec L2 L3
namespace My
open PySem L2 L3
set_option hygiene false
local macro_rules|`(#[])=>`(.n)|`(#[$x:term])=>`(.c $x .n)|`(#[$x:term,$xs:term,*])=>`(.c $x #[$xs,*])
set_option hygiene true
abbrev bS:aw:=⟨["self","at"],["self","at"],[],#[.e (.bini #[.v 0,.s "no list of 1 to 60 contents"]),.fld (.v 0) "at" (.v 1)]⟩
abbrev bV:aw:=⟨["self","low","behind","word"],["self","low","behind","word"],[],#[.e (.bini #[.v 0,.s "no stretch of the store, or no word for a leave"]),.fld (.v 0) "low" (.v 1),.fld (.v 0) "behind" (.v 2),.fld (.v 0) "word" (.v 3)]⟩
abbrev gH:aw:=⟨["self","deed","cell"],["self","deed","cell"],[],#[.e (.bini #[.v 0,.s "a cell that is not there, or may not be looked at or put"]),.fld (.v 0) "deed" (.v 1),.fld (.v 0) "cell" (.v 2)]⟩
abbrev gb:aw:=⟨["self","box","number"],["self","box","number"],[],#[.e (.bini #[.v 0,.s "a box can't hold this"]),.fld (.v 0) "box" (.v 1),.fld (.v 0) "number" (.v 2)]⟩
abbrev fK:aw:=⟨["self","word"],["self","word"],[],#[.e (.bini #[.v 0,.s "a deed can't be made of this"]),.fld (.v 0) "word" (.v 1)]⟩
abbrev cg:aw:=⟨["self","at"],["self","at"],[],#[.e (.bini #[.v 0,.s "no list of 1 to 24 deeds"]),.fld (.v 0) "at" (.v 1)]⟩
abbrev bQ:aw:=⟨["self","at"],["self","at"],[],#[.e (.bini #[.v 0,.s "no place to stand at"]),.fld (.v 0) "at" (.v 1)]⟩
abbrev hU:aw:=⟨["thing"],["thing"],[],#[.r (.and (.isi (.v 0) (.ty "int")) (.not (.isi (.v 0) (.ty "bool"))))]⟩
abbrev fh:aw:=⟨["thing"],["thing"],[],#[.r (.and (.k 7 #[.v 0]) (.cmp2 .LtE .LtE (.i 0) (.v 0) (.gl "BOUND")))]⟩
abbrev lA:aw:=⟨["thing"],["thing"],[],#[.r (.and (.isi (.v 0) (.ty "str")) (.q .In (.v 0) (.gl "NAMES")))]⟩
abbrev gq:aw:=⟨["thing"],["thing"],[],#[.r (.and (.k 7 #[.v 0]) (.cmp2 .LtE .LtE (.neg (.gl "BOUND")) (.v 0) (.gl "BOUND")))]⟩
abbrev t6:aw:=⟨["box","thing"],["box","thing"],[],#[.f (.or (.q .Eq (.v 0) (.s "here")) (.q .Eq (.v 0) (.s "there"))) #[.r (.k 10 #[.v 1])] .n,.f (.q .Eq (.v 0) (.s "way")) #[.r (.and (.k 7 #[.v 1]) (.or (.q .Eq (.v 1) (.i 1)) (.q .Eq (.v 1) (.neg (.i 1)))))] .n,.f (.q .Eq (.v 0) (.s "met")) #[.r (.and (.k 7 #[.v 1]) (.or (.q .Eq (.v 1) (.i 0)) (.q .Eq (.v 1) (.i 1))))] .n,.r (.k 8 #[.v 1])]⟩
abbrev cH:aw:=⟨["self","here","there","left","way","sign","met"],["self","here","there","left","way","sign","met","handed","box","number"],[.int 0,.int 0,.int 0,.int 1,.int 0,.int 0],#[.a 7 (.tup #[.v 1,.v 2,.v 3,.v 4,.v 5,.v 6]),.for (.tp [8,9]) (.zip (.gl "NAMES") (.v 7)) #[.f (.not (.val (.k 11 #[.v 8,.v 9]))) #[.rais (.make 4 #[.v 8,.v 9])] .n],.fld (.v 0) "numbers" (.dzip (.gl "NAMES") (.v 7))]⟩
abbrev cW:aw:=⟨["self"],["self"],[],#[.r (.bf .tuple #[.lc (.ix (.fld (.v 1) "numbers") (.v 0)) [0] (.seq (.gl "NAMES"))])]⟩
abbrev de:aw:=⟨["self"],["self","other"],[],#[.a 1 (.make 8 .n),.fld (.v 1) "numbers" (.bf .dict #[.fld (.v 0) "numbers"]),.r (.v 1)]⟩
abbrev gy:aw:=⟨["word","box"],["word","box"],[],#[.f (.not (.val (.k 9 #[.v 1]))) #[.rais (.make 5 #[.v 0])] .n]⟩
abbrev dJ:aw:=⟨["word","number"],["word","number"],[],#[.f (.not (.val (.k 10 #[.v 1]))) #[.rais (.make 5 #[.v 0])] .n]⟩
abbrev dH:aw:=⟨["self","box","number"],["self","box","number"],[],#[.e (.k 15 #[.s "set",.v 1]),.e (.k 16 #[.s "set",.v 2]),.fld (.v 0) "box" (.v 1),.fld (.v 0) "number" (.v 2)]⟩
abbrev lG:aw:=⟨["self"],["self"],[],#[.r (.lst #[.s "set",.fld (.v 0) "box",.bf .str #[.fld (.v 0) "number"]])]⟩
abbrev dq:aw:=⟨["self","box","number"],["self","box","number"],[],#[.e (.k 15 #[.s "add",.v 1]),.e (.k 16 #[.s "add",.v 2]),.fld (.v 0) "box" (.v 1),.fld (.v 0) "number" (.v 2)]⟩
abbrev lz:aw:=⟨["self"],["self"],[],#[.r (.lst #[.s "add",.fld (.v 0) "box",.bf .str #[.fld (.v 0) "number"]])]⟩
abbrev c7:aw:=⟨["self","box","other"],["self","box","other"],[],#[.e (.k 15 #[.s "take",.v 1]),.e (.k 15 #[.s "take",.v 2]),.fld (.v 0) "box" (.v 1),.fld (.v 0) "other" (.v 2)]⟩
abbrev kO:aw:=⟨["self"],["self"],[],#[.r (.lst #[.s "take",.fld (.v 0) "box",.fld (.v 0) "other"])]⟩
abbrev c6:aw:=⟨["self","box"],["self","box"],[],#[.e (.k 15 #[.s "read",.v 1]),.fld (.v 0) "box" (.v 1)]⟩
abbrev kL:aw:=⟨["self"],["self"],[],#[.r (.lst #[.s "read",.fld (.v 0) "box"])]⟩
abbrev cz:aw:=⟨["self","box"],["self","box"],[],#[.e (.k 15 #[.s "write",.v 1]),.fld (.v 0) "box" (.v 1)]⟩
abbrev iX:aw:=⟨["self"],["self"],[],#[.r (.lst #[.s "write",.fld (.v 0) "box"])]⟩
abbrev cP:aw:=⟨["rows"],["rows","at","thing"],[],#[.f (.or (.not (.val (.isi (.v 0) (.ty "list")))) (.not (.cmp2 .LtE .LtE (.i 1) (.bf .len #[.v 0]) (.gl "MOST_ROWS")))) #[.rais (.make 6 #[.neg (.i 1)])] .n,.for (.tp [1,2]) (.enm (.v 0)) #[.f (.not (.val (.isi (.v 2) (.own 9)))) #[.rais (.make 6 #[.v 1])] .n]]⟩
abbrev cu:aw:=⟨["at","many"],["at","many"],[],#[.f (.or (.not (.val (.k 7 #[.v 0]))) (.not (.cmp2 .LtE .LtE (.i 0) (.v 0) (.v 1)))) #[.rais (.make 7 #[.v 0])] .n]⟩
abbrev aH:aw:=⟨["self","rows","store","boxes","at"],["self","rows","store","boxes","at"],[.int 0],#[.e (.k 27 #[.v 1]),.e (.k 28 #[.v 4,.bf .len #[.v 1]]),.fld (.v 0) "deeds" (.bf .list #[.v 1]),.fld (.v 0) "store" (.m (.v 2) "copied" .n),.fld (.v 0) "boxes" (.m (.v 3) "copied" .n),.fld (.v 0) "at" (.v 4)]⟩
abbrev bD:aw:=⟨["self"],["self"],[],#[.r (.tup #[.fld (.v 0) "at",.m (.fld (.v 0) "boxes") "told" .n,.m (.fld (.v 0) "store") "told" .n])]⟩
abbrev bc:aw:=⟨["self"],["self"],[],#[.r (.m (.fld (.v 0) "store") "leaves" .n)]⟩
abbrev bF:aw:=⟨["self","low","behind","word"],["self","low","behind","word"],[],#[.e (.m (.fld (.v 0) "store") "leave" #[.v 1,.v 2,.v 3])]⟩
abbrev iz:aw:=⟨["self"],["self"],[],#[.r (.lc (.m (.v 0) "words" .n) [] (.seq (.fld (.v 0) "deeds")))]⟩
abbrev f7:aw:=⟨["self"],["self"],[],#[.r (.make 15 #[.fld (.v 0) "deeds",.fld (.v 0) "store",.fld (.v 0) "boxes",.fld (.v 0) "at"])]⟩
abbrev jw:aw:=⟨["thing"],["thing"],[],#[.r (.and (.k 7 #[.v 0]) (.cmp2 .LtE .LtE (.i 0) (.v 0) (.gl "MOST_HOPPED")))]⟩
abbrev qc:aw:=⟨["thing"],["thing"],[],#[.r (.or (.q .Is (.v 0) .non) (.and (.k 7 #[.v 0]) (.or (.q .Eq (.v 0) (.i 0)) (.q .Eq (.v 0) (.i 1)))))]⟩
abbrev di:aw:=⟨["self","many","on"],["self","many","on"],[.non],#[.f (.or (.not (.val (.k 35 #[.v 1]))) (.not (.val (.k 36 #[.v 2])))) #[.rais (.make 5 #[.s "hop"])] .n,.fld (.v 0) "many" (.v 1),.fld (.v 0) "on" (.v 2)]⟩
abbrev mU:aw:=⟨["self"],["self","told"],[],#[.a 1 (.lst #[.s "hop",.bf .str #[.fld (.v 0) "many"]]),.f (.q .IsNot (.fld (.v 0) "on") .non) #[.e (.lm .extend (.v 1) #[.lst #[.s "if",.bf .str #[.fld (.v 0) "on"]]])] .n,.r (.v 1)]⟩
abbrev jR:aw:=⟨["self"],["self"],[],#[.r (.lst #[.s "copy"])]⟩
abbrev kK:aw:=⟨["self"],["self"],[],#[.r (.lst #[.s "fill"])]⟩
abbrev kS:aw:=⟨["self"],["self"],[],#[.r (.lst #[.s "seek"])]⟩
abbrev i7:aw:=⟨["self"],["self"],[],#[.r (.lst #[.s "match"])]⟩
abbrev i9:aw:=⟨["self"],["self"],[],#[.r (.lst #[.s "shift"])]⟩
abbrev j0:aw:=⟨["self"],["self"],[],#[.r (.lst #[.s "turn"])]⟩
abbrev ef:aw:=⟨["cells"],["cells","at","thing"],[],#[.f (.or (.not (.val (.isi (.v 0) (.ty "list")))) (.not (.cmp2 .LtE .LtE (.i 1) (.bf .len #[.v 0]) (.gl "MOST_CELLS")))) #[.rais (.make 1 #[.neg (.i 1)])] .n,.for (.tp [1,2]) (.enm (.v 0)) #[.f (.not (.val (.k 8 #[.v 2]))) #[.rais (.make 1 #[.v 1])] .n]]⟩
abbrev iS:aw:=⟨["word"],["word"],[],#[.r (.and (.isi (.v 0) (.ty "str")) (.q .In (.v 0) (.gl "LEAVES")))]⟩
abbrev gw:aw:=⟨["low","behind","size"],["low","behind","size"],[],#[.r (.and (.k 7 #[.v 0]) (.and (.k 7 #[.v 1]) (.cmp3 .LtE .LtE .LtE (.i 0) (.v 0) (.v 1) (.v 2))))]⟩
abbrev cB:aw:=⟨["self","cells"],["self","cells"],[],#[.e (.k 45 #[.v 1]),.fld (.v 0) "contents" (.bf .list #[.v 1]),.fld (.v 0) "permits" (.bin .Mult (.lst #[.s "open"]) (.bf .len #[.v 1]))]⟩
abbrev fv:aw:=⟨["self"],["self"],[],#[.r (.bf .len #[.fld (.v 0) "contents"])]⟩
abbrev cU:aw:=⟨["self"],["self"],[],#[.r (.bf .list #[.fld (.v 0) "contents"])]⟩
abbrev bM:aw:=⟨["self"],["self"],[],#[.r (.bf .list #[.fld (.v 0) "permits"])]⟩
abbrev d8:aw:=⟨["self","low","behind","word"],["self","low","behind","word","cell"],[],#[.f (.or (.not (.val (.k 47 #[.v 1,.v 2,.m (.v 0) "size" .n]))) (.not (.val (.k 46 #[.v 3])))) #[.rais (.make 2 #[.v 1,.v 2,.v 3])] .n,.for (.nm 4) (.rng2 (.v 1) (.v 2)) #[.sub (.fld (.v 0) "permits") (.v 4) (.v 3)]]⟩
abbrev lU:aw:=⟨["self","deed","cell"],["self","deed","cell"],[],#[.f (.not (.cmp2 .LtE .Lt (.i 0) (.v 2) (.m (.v 0) "size" .n))) #[.r (.bl false)] .n,.f (.q .Eq (.ix (.fld (.v 0) "permits") (.v 2)) (.s "look")) #[.r (.q .Eq (.v 1) (.s "look"))] .n,.r (.q .Eq (.ix (.fld (.v 0) "permits") (.v 2)) (.s "open"))]⟩
abbrev kW:aw:=⟨["self","cell"],["self","cell"],[],#[.f (.not (.val (.m (.v 0) "may" #[.s "look",.v 1]))) #[.rais (.make 3 #[.s "look",.v 1])] .n,.r (.ix (.fld (.v 0) "contents") (.v 1))]⟩
abbrev mw:aw:=⟨["self","cell","content"],["self","cell","content"],[],#[.f (.not (.val (.m (.v 0) "may" #[.s "put",.v 1]))) #[.rais (.make 3 #[.s "put",.v 1])] .n,.sub (.fld (.v 0) "contents") (.v 1) (.v 2)]⟩
abbrev dv:aw:=⟨["self"],["self","other"],[],#[.a 1 (.make 23 #[.lst #[.i 0]]),.fld (.v 1) "contents" (.bf .list #[.fld (.v 0) "contents"]),.fld (.v 1) "permits" (.bf .list #[.fld (.v 0) "permits"]),.r (.v 1)]⟩
abbrev gp:aw:=⟨["_law_script"],["_law_script","_law_cells_here","_law_fold","_law_cell"],[],#[.a 1 (.bf .list #[.sl (.v 0) .no (.yes (.i 63))]),.a 2 (.bf .len #[.v 1]),.for (.nm 3) (.seq (.v 1)) #[.a 2 (.bin .Mod (.bin .Add (.bin .Add (.bin .Mult (.v 2) (.i 48271)) (.bin .Mod (.v 3) (.i 2147483647))) (.i 1)) (.i 2147483629))],.r (.lst #[.v 1,.v 2,.i 0,.i 0,.i 0])]⟩
abbrev gx:aw:=⟨["_law_hand_here","_law_many"],["_law_hand_here","_law_many","_law_rest","_law_cell","_law_one","_law_two"],[],#[.augS (.v 0) (.i 4) .Add (.i 1),.a 2 (.ix (.v 0) (.i 3)),.a 3 (.ix (.v 0) (.i 1)),.f (.q .Gt (.v 2) (.i 0)) #[.sub (.v 0) (.i 3) (.bin .FloorDiv (.v 2) (.v 1)),.r (.bin .Mod (.v 2) (.v 1))] .n,.f (.q .Lt (.ix (.v 0) (.i 2)) (.bf .len #[.ix (.v 0) (.i 0)])) #[.a 3 (.ix (.ix (.v 0) (.i 0)) (.ix (.v 0) (.i 2))),.augS (.v 0) (.i 2) .Add (.i 1),.f (.q .GtE (.v 3) (.bin .Pow (.i 10) (.i 18))) #[.sub (.v 0) (.i 3) (.bin .FloorDiv (.v 3) (.v 1)),.r (.bin .Mod (.v 3) (.v 1))] .n] .n,.a 4 (.bin .Mod (.bin .Pow (.bin .Add (.bin .Mod (.v 3) (.i 998244353)) (.bin .Mult (.i 7919) (.ix (.v 0) (.i 4)))) (.i 5)) (.i 2147483647)),.a 5 (.bin .Mod (.bin .Pow (.bin .Add (.bin .Add (.v 4) (.bin .Mult (.i 104729) (.ix (.v 0) (.i 4)))) (.ix (.v 0) (.i 1))) (.i 3)) (.i 2147483629)),.r (.bin .Mod (.bin .FloorDiv (.v 5) (.i 7)) (.v 1))]⟩
abbrev dz:aw:=⟨["_law_hand_here"],["_law_hand_here","_law_way"],[],#[.a 1 (.k 58 #[.v 0,.i 4]),.f (.q .Eq (.v 1) (.i 0)) #[.r (.k 58 #[.v 0,.i 3])] .n,.f (.q .Eq (.v 1) (.i 1)) #[.r (.bin .Sub (.bin .Pow (.i 10) (.i 9)) (.k 58 #[.v 0,.i 2]))] .n,.f (.q .Eq (.v 1) (.i 2)) #[.r (.k 58 #[.v 0,.i 100])] .n,.r (.bin .Mod (.bin .Add (.bin .Mult (.k 58 #[.v 0,.i 100000]) (.i 10001)) (.k 58 #[.v 0,.i 10001])) (.bin .Add (.bin .Pow (.i 10) (.i 9)) (.i 1)))]⟩
abbrev fe:aw:=⟨["_law_hand_here","_law_most"],["_law_hand_here","_law_most","_law_way","_law_many"],[],#[.a 2 (.k 58 #[.v 0,.i 3]),.a 3 (.bin .Add (.i 1) (.k 58 #[.v 0,.v 1])),.f (.q .Eq (.v 2) (.i 0)) #[.r (.lc (.k 58 #[.v 1,.i 3]) [0] (.rng1 (.v 3)))] .n,.f (.q .Eq (.v 2) (.i 1)) #[.r (.lc (.bin .Add (.bin .Mult (.i 1000) (.v 0)) (.k 58 #[.v 1,.i 1000])) [0] (.rng1 (.v 3)))] .n,.r (.lc (.k 59 #[.v 1]) [0] (.rng1 (.v 3)))]⟩
abbrev iW:aw:=⟨["_law_hand_here","_law_low","_law_high"],["_law_hand_here","_law_low","_law_high","_law_way"],[],#[.a 3 (.k 58 #[.v 0,.i 12]),.f (.q .Lt (.v 3) (.i 2)) #[.r (.bin .Sub (.bin .Sub (.v 1) (.i 1)) (.ix (.lst #[.i 0,.k 58 #[.v 0,.bin .Pow (.i 10) (.i 6)]]) (.v 3)))] .n,.f (.q .Lt (.v 3) (.i 4)) #[.r (.bin .Add (.bin .Add (.v 2) (.i 1)) (.ix (.lst #[.i 0,.k 58 #[.v 0,.bin .Pow (.i 10) (.i 6)]]) (.bin .Sub (.v 3) (.i 2))))] .n,.f (.q .Eq (.v 3) (.i 4)) #[.r (.bin .Add (.bin .Pow (.i 10) (.i 59)) (.k 58 #[.v 0,.bin .Pow (.i 10) (.i 6)]))] .n,.f (.q .Eq (.v 3) (.i 5)) #[.r (.bin .Sub (.neg (.bin .Pow (.i 10) (.i 59))) (.k 58 #[.v 0,.bin .Pow (.i 10) (.i 6)]))] .n,.r (.ix (.lst #[.non,.bl true,.bl false,.s "1",.lst #[.i 1],.tup #[.i 0],.dnew,.s "here",.s ""]) (.k 58 #[.v 0,.i 9]))]⟩
abbrev gv:aw:=⟨["_law_hand_here","_law_many"],["_law_hand_here","_law_many","_law_way"],[],#[.a 2 (.k 58 #[.v 0,.i 8]),.f (.q .Lt (.v 2) (.i 4)) #[.r (.k 58 #[.v 0,.v 1])] .n,.f (.q .Lt (.v 2) (.i 6)) #[.r (.ix (.lst #[.i 0,.bin .Sub (.v 1) (.i 1)]) (.bin .Sub (.v 2) (.i 4)))] .n,.f (.q .Eq (.v 2) (.i 6)) #[.r (.ix (.lst #[.bin .Sub (.neg (.i 1)) (.k 58 #[.v 0,.i 3]),.bin .Add (.v 1) (.k 58 #[.v 0,.i 3])]) (.k 58 #[.v 0,.i 2]))] .n,.r (.ix (.lst #[.bin .Sub (.bin .Pow (.i 10) (.i 9)) (.k 58 #[.v 0,.i 2]),.bin .Sub (.k 58 #[.v 0,.i 2]) (.bin .Pow (.i 10) (.i 9)),.k 58 #[.v 0,.v 1]]) (.k 58 #[.v 0,.i 3]))]⟩
abbrev eP:aw:=⟨["_law_hand_here","_law_cells_here"],["_law_hand_here","_law_cells_here","_law_many","_law_way","_law_left","_law_sign","_law_here","_law_there"],[],#[.a 2 (.bf .len #[.v 1]),.a 3 (.k 58 #[.v 0,.i 8]),.a 4 (.ix (.lst #[.k 58 #[.v 0,.bin .Add (.v 2) (.i 1)],.k 58 #[.v 0,.i 4],.bin .Add (.v 2) (.k 58 #[.v 0,.i 3])]) (.bin .Mod (.v 3) (.i 3))),.f (.q .Eq (.v 3) (.i 7)) #[.a 4 (.bin .Sub (.bin .Pow (.i 10) (.i 9)) (.k 58 #[.v 0,.i 2]))] .n,.a 5 (.ix (.lst #[.ix (.v 1) (.k 58 #[.v 0,.v 2]),.k 59 #[.v 0]]) (.bin .FloorDiv (.k 58 #[.v 0,.i 4]) (.i 3))),.a 6 (.k 62 #[.v 0,.v 2]),.a 7 (.k 62 #[.v 0,.v 2]),.a 3 (.bin .Sub (.i 1) (.bin .Mult (.i 2) (.k 58 #[.v 0,.i 2]))),.r (.disp ["here","there","left","way","sign","met"] #[.v 6,.v 7,.v 4,.v 3,.v 5,.k 58 #[.v 0,.i 2]])]⟩
abbrev gz:aw:=⟨["_law_hand_here","_law_size"],["_law_hand_here","_law_size","_law_way","_law_names","_law_box","_law_pick"],[],#[.a 2 (.k 58 #[.v 0,.i 14]),.a 3 (.lst #[.s "here",.s "there",.s "left",.s "way",.s "sign",.s "met"]),.a 4 (.ix (.v 3) (.k 58 #[.v 0,.i 6])),.f (.q .Lt (.v 2) (.i 6)) #[.r (.tup #[.ix (.lst #[.s "copy",.s "fill",.s "seek",.s "match",.s "shift",.s "turn"]) (.v 2)])] .n,.f (.q .Lt (.v 2) (.i 9)) #[.a 4 (.ix (.lst #[.s "here",.s "there",.s "left",.v 4]) (.k 58 #[.v 0,.i 4])),.a 5 (.bin .FloorDiv (.k 58 #[.v 0,.i 8]) (.i 3)),.r (.tup #[.s "set",.v 4,.ix (.lst #[.k 58 #[.v 0,.bin .Add (.v 1) (.i 1)],.bin .Sub (.k 58 #[.v 0,.i 5]) (.i 2),.bin .Sub (.bin .Pow (.i 10) (.i 9)) (.k 58 #[.v 0,.i 2])]) (.v 5)])] .n,.f (.q .Eq (.v 2) (.i 9)) #[.a 5 (.bin .FloorDiv (.k 58 #[.v 0,.i 7]) (.i 3)),.r (.tup #[.s "add",.v 4,.ix (.lst #[.bin .Sub (.k 58 #[.v 0,.i 7]) (.i 3),.k 58 #[.v 0,.bin .Add (.v 1) (.i 1)],.neg (.bin .Pow (.i 10) (.i 9))]) (.v 5)])] .n,.f (.q .Eq (.v 2) (.i 10)) #[.r (.tup #[.s "take",.v 4,.ix (.v 3) (.k 58 #[.v 0,.i 6])])] .n,.f (.q .Lt (.v 2) (.i 13)) #[.r (.tup #[.ix (.lst #[.s "read",.s "write"]) (.bin .Sub (.v 2) (.i 11)),.v 4])] .n,.r (.tup #[.s "hop",.k 58 #[.v 0,.i 4],.ix (.lst #[.non,.i 0,.i 1]) (.k 58 #[.v 0,.i 3])])]⟩
abbrev gA:aw:=⟨["_law_spec_here"],["_law_spec_here","_law_word"],[],#[.a 1 (.ix (.v 0) (.i 0)),.f (.q .Eq (.v 1) (.s "set")) #[.r (.make 10 #[.ix (.v 0) (.i 1),.ix (.v 0) (.i 2)])] .n,.f (.q .Eq (.v 1) (.s "add")) #[.r (.make 11 #[.ix (.v 0) (.i 1),.ix (.v 0) (.i 2)])] .n,.f (.q .Eq (.v 1) (.s "take")) #[.r (.make 12 #[.ix (.v 0) (.i 1),.ix (.v 0) (.i 2)])] .n,.f (.q .Eq (.v 1) (.s "read")) #[.r (.make 13 #[.ix (.v 0) (.i 1)])] .n,.f (.q .Eq (.v 1) (.s "write")) #[.r (.make 14 #[.ix (.v 0) (.i 1)])] .n,.f (.q .Eq (.v 1) (.s "hop")) #[.r (.make 16 #[.ix (.v 0) (.i 1),.ix (.v 0) (.i 2)])] .n,.r (.k 66 #[.v 1])]⟩
abbrev gu:aw:=⟨["_law_word"],["_law_word"],[],#[.f (.q .Eq (.v 0) (.s "copy")) #[.r (.mk0 17)] .n,.f (.q .Eq (.v 0) (.s "fill")) #[.r (.mk0 18)] .n,.f (.q .Eq (.v 0) (.s "seek")) #[.r (.mk0 19)] .n,.f (.q .Eq (.v 0) (.s "match")) #[.r (.mk0 20)] .n,.f (.q .Eq (.v 0) (.s "shift")) #[.r (.mk0 21)] .n,.r (.mk0 22)]⟩
abbrev cn:aw:=⟨["_law_rows","_law_store","_law_boxes","_law_at"],["_law_rows","_law_store","_law_boxes","_law_at","_law_machine","e"],[],#[.tryx #[.a 4 (.make 15 #[.v 0,.v 1,.v 2,.v 3])] (.c 0 5 #[.f (.or (.val (.isiT (.v 5) [5,4,1,3])) (.not (.val (.isi (.v 5) (.ty "ValueError"))))) #[.r (.tup #[.s "another",.i 0])] .n,.f (.and (.val (.isi (.v 5) (.own 6))) (.not (.val (.isi (.v 5) (.own 7))))) #[.r (.tup #[.s "rows",.fld (.v 5) "at"])] .n,.f (.and (.val (.isi (.v 5) (.own 7))) (.not (.val (.isi (.v 5) (.own 6))))) #[.r (.tup #[.s "place",.fld (.v 5) "at"])] .n,.r (.tup #[.s "another",.i 0])] .n),.r (.tup #[.s "made",.ix (.m (.v 4) "state" .n) (.i 0)])]⟩
abbrev fm:aw:=⟨["_law_found","_law_due"],["_law_found","_law_due"],[],#[.r (.and (.q .Eq (.ix (.v 0) (.i 0)) (.ix (.v 1) (.i 0))) (.and (.q .Eq (.isi (.ix (.v 0) (.i 1)) (.ty "bool")) (.isi (.ix (.v 1) (.i 1)) (.ty "bool"))) (.q .Eq (.ix (.v 0) (.i 1)) (.ix (.v 1) (.i 1)))))]⟩
abbrev dg:aw:=⟨["_law_hand_here","_law_store","_law_boxes"],["_law_hand_here","_law_store","_law_boxes","_law_some"],[],#[.a 3 (.lst #[.non,.s "copy",.i 0,.bl true,.tup #[.s "copy"],.lst #[.mk0 17],.dnew,.v 1,.v 2,.lst #[.s "set",.s "here",.i 1],.s "",.tup #[.make 16 #[.i 1]]]),.r (.ix (.v 3) (.k 58 #[.v 0,.bf .len #[.v 3]]))]⟩
abbrev dA:aw:=⟨["_law_hand_here","_law_deeds"],["_law_hand_here","_law_deeds","_law_way"],[],#[.a 2 (.k 58 #[.v 0,.i 8]),.f (.q .Eq (.v 2) (.i 0)) #[.r (.sl (.bin .Mult (.v 1) (.i 25)) .no (.yes (.i 25)))] .n,.f (.q .Eq (.v 2) (.i 1)) #[.r (.sl (.bin .Mult (.v 1) (.i 300)) .no (.yes (.i 300)))] .n,.r (.ix (.lst #[.bf .tuple #[.v 1],.lst .n,.dnew,.non,.s "copy",.ix (.v 1) (.i 0)]) (.bin .Sub (.v 2) (.i 2)))]⟩
abbrev aG:aw:=⟨["_law_hand_here","_law_deeds","_law_store","_law_boxes"],["_law_hand_here","_law_deeds","_law_store","_law_boxes","_law_rows","_law_places","_law_turn","_law_at","_law_thing"],[],#[.f (.q .Eq (.k 58 #[.v 0,.i 4]) (.i 0)) #[.r (.tup #[.k 70 #[.v 0,.v 1],.neg (.i 1)])] .n,.a 4 (.bf .list #[.v 1]),.a 5 (.lst .n),.for (.nm 6) (.rng1 (.bin .Add (.i 1) (.k 58 #[.v 0,.i 2]))) #[.a 7 (.k 58 #[.v 0,.bf .len #[.v 4]]),.a 8 (.k 69 #[.v 0,.v 2,.v 3]),.f (.and (.q .Lt (.bf .len #[.v 4]) (.i 24)) (.q .Eq (.k 58 #[.v 0,.i 2]) (.i 0))) #[.e (.lm .insert (.v 4) #[.v 7,.v 8]),.a 5 (.lc (.bin .Add (.v 0) (.bf .int #[.q .GtE (.v 0) (.v 1)])) [7] (.seq (.v 5)))] #[.sub (.v 4) (.v 7) (.v 8)],.e (.lm .append (.v 5) #[.v 7])],.r (.tup #[.v 4,.bf .min #[.v 5]])]⟩
abbrev ei:aw:=⟨["_law_rows"],["_law_rows"],[],#[.f (.val (.isi (.v 0) (.ty "list"))) #[.r (.bf .list #[.v 0])] .n,.r (.v 0)]⟩
abbrev aP:aw:=⟨["_law_hand_here","_law_machine","_law_size"],["_law_hand_here","_law_machine","_law_size","_law_low","_law_wrong_here","_law_one","_law_ahead","e"],[],#[.a 3 (.k 58 #[.v 0,.v 2]),.a 4 (.lst #[.tup #[.v 3,.bin .Add (.v 2) (.i 1),.s "shut"],.tup #[.neg (.i 1),.v 3,.s "shut"],.tup #[.bin .Add (.v 3) (.i 1),.v 3,.s "look"],.tup #[.v 3,.v 3,.s "closed"]]),.a 4 (.bin .Add (.v 4) (.lst #[.tup #[.v 3,.v 2,.non],.tup #[.non,.v 2,.s "open"],.tup #[.i 0,.s "1",.s "open"],.tup #[.bin .Pow (.i 10) (.i 59),.bin .Pow (.i 10) (.i 59),.s "open"]])),.a 5 (.ix (.bin .Add (.v 4) (.lst #[.tup #[.bl true,.v 2,.s "shut"],.tup #[.i 0,.k 61 #[.v 0,.i 0,.v 2],.s "look"]])) (.k 58 #[.v 0,.i 10])),.a 6 (.tup #[.m (.v 1) "state" .n,.m (.v 1) "leaves" .n]),.tryx #[.e (.m (.v 1) "leave" #[.ix (.v 5) (.i 0),.ix (.v 5) (.i 1),.ix (.v 5) (.i 2)])] (.c 0 7 #[.f (.or (.not (.val (.isi (.v 7) (.own 2)))) (.val (.isiT (.v 7) [6,1,3]))) #[.r (.bl false)] .n,.f (.or (.q .NotEq (.tup #[.fld (.v 7) "low",.fld (.v 7) "behind",.fld (.v 7) "word"]) (.v 5)) (.q .NotEq (.isi (.fld (.v 7) "low") (.ty "bool")) (.isi (.ix (.v 5) (.i 0)) (.ty "bool")))) #[.r (.bl false)] .n,.r (.q .Eq (.tup #[.m (.v 1) "state" .n,.m (.v 1) "leaves" .n]) (.v 6))] .n),.r (.bl false)]⟩
abbrev ff:aw:=⟨["_law_hand_here","_law_machine","_law_size"],["_law_hand_here","_law_machine","_law_size","_law_leaves","_law_turn","_law_low","_law_behind","_law_word","_law_cell"],[],#[.a 3 (.bin .Mult (.lst #[.s "open"]) (.v 2)),.for (.nm 4) (.rng1 (.i 6)) #[.f (.not (.val (.k 73 #[.v 0,.v 1,.v 2]))) #[.r (.bl false)] .n,.a 5 (.k 58 #[.v 0,.bin .Add (.v 2) (.i 1)]),.a 6 (.bin .Add (.v 5) (.k 58 #[.v 0,.bin .Sub (.bin .Add (.v 2) (.i 1)) (.v 5)])),.a 7 (.ix (.lst #[.s "open",.s "look",.s "shut"]) (.k 58 #[.v 0,.i 3])),.f (.q .IsNot (.m (.v 1) "leave" #[.v 5,.v 6,.v 7]) .non) #[.r (.bl false)] .n,.for (.nm 8) (.rng2 (.v 5) (.v 6)) #[.sub (.v 3) (.v 8) (.v 7)],.f (.q .NotEq (.m (.v 1) "leaves" .n) (.v 3)) #[.r (.bl false)] .n],.r (.bl true)]⟩
abbrev jk:aw:=⟨["_law_script"],["_law_script","_law_hand_here","_law_cells_here","_law_six_here","_law_store","_law_boxes","_law_deeds","_law_k","_law_turn","_law_rows","_law_due","_law_good","_law_odd_here","_law_kept","_law_at","_law_machine"],[],#[.a 1 (.k 57 #[.v 0]),.a 2 (.k 60 #[.v 1,.i 12]),.a 3 (.k 63 #[.v 1,.v 2]),.a 4 (.make 23 #[.v 2]),.a 5 (.make 8 #[.ix (.v 3) (.s "here"),.ix (.v 3) (.s "there"),.ix (.v 3) (.s "left"),.ix (.v 3) (.s "way"),.ix (.v 3) (.s "sign"),.ix (.v 3) (.s "met")]),.a 6 (.lst .n),.for (.nm 7) (.rng1 (.ix (.lst #[.i 1,.i 24,.bin .Add (.i 1) (.k 58 #[.v 1,.i 24])]) (.k 58 #[.v 1,.i 3]))) #[.e (.lm .append (.v 6) #[.k 65 #[.k 64 #[.v 1,.bf .len #[.v 2]]]])],.for (.nm 8) (.rng1 (.i 6)) #[.asgT [9,10] (.k 71 #[.v 1,.v 6,.v 4,.v 5]),.a 11 (.ix (.lst #[.i 0,.bf .len #[.v 6],.k 58 #[.v 1,.bin .Add (.bf .len #[.v 6]) (.i 1)]]) (.k 58 #[.v 1,.i 3])),.a 12 (.k 61 #[.v 1,.i 0,.bf .len #[.v 6]]),.a 13 (.k 72 #[.v 9]),.for (.nm 14) (.seq (.lst #[.v 11,.v 12])) #[.f (.or (.not (.val (.k 68 #[.k 67 #[.v 9,.v 4,.v 5,.v 14],.tup #[.s "rows",.v 10]]))) (.q .NotEq (.v 9) (.v 13))) #[.r (.bl false)] .n],.f (.not (.val (.k 68 #[.k 67 #[.bf .list #[.v 6],.v 4,.v 5,.v 12],.tup #[.s "place",.v 12]]))) #[.r (.bl false)] .n,.f (.not (.val (.k 68 #[.k 67 #[.bf .list #[.v 6],.v 4,.v 5,.v 11],.tup #[.s "made",.v 11]]))) #[.r (.bl false)] .n],.a 15 (.make 15 #[.v 6,.v 4,.v 5]),.f (.or (.q .NotEq (.m (.v 15) "state" .n) (.tup #[.i 0,.m (.v 5) "told" .n,.v 2])) (.not (.val (.k 74 #[.v 1,.v 15,.bf .len #[.v 2]])))) #[.r (.bl false)] .n,.r (.q .Eq (.m (.v 15) "state" .n) (.tup #[.i 0,.m (.v 5) "told" .n,.v 2]))]⟩
abbrev tab:Tab where
  fns:=(bS::bV::gH::gb::fK::cg::bQ::hU::fh::lA::gq::t6::cH::cW::de::gy::dJ::dH::lG::dq::lz::c7::kO::c6::kL::cz::iX::cP::cu::aH::bD::bc::bF::iz::f7::jw::qc::di::mU::jR::kK::kS::i7::i9::j0::ef::iS::gw::cB::fv::cU::bM::d8::lU::kW::mw::dv::gp::gx::dz::fe::iW::gv::eP::gz::gA::gu::cn::fm::dg::dA::aG::ei::aP::ff::jk::[])
  gfn:=(("is_whole",7)::("is_content",8)::("is_box",9)::("is_number",10)::("fits",11)::("check_box",15)::("check_number",16)::("check_rows",27)::("check_place",28)::("is_many",35)::("is_on",36)::("check_cells",45)::("is_leave",46)::("is_within",47)::("_law_hand",57)::("_law_draw",58)::("_law_content",59)::("_law_cells",60)::("_law_odd",61)::("_law_spot",62)::("_law_six",63)::("_law_spec",64)::("_law_deed",65)::("_law_long",66)::("_law_told",67)::("_law_alike",68)::("_law_no_deed",69)::("_law_no_list",70)::("_law_wrong",71)::("_law_copied",72)::("_law_no_leave",73)::("_law_given",74)::("law",75)::[])
  gcl:=[("HaulError",0),("NoStore",1),("NoLeave",2),("Stop",3),("NoFit",4),("NoDeed",5),("NoRows",6),("NoPlace",7),("Boxes",8),("Deed",9),("Set",10),("Add",11),("Take",12),("Read",13),("Write",14),("Machine",15),("Hop",16),("Copy",17),("Fill",18),("Seek",19),("Match",20),("Shift",21),("Turn",22),("Store",23)]
  gbl:=["ValueError","bool","dict","enumerate","int","isinstance","len","list","min","range","str","tuple","zip"]
  gbi:=["HaulError"]
  na:=[(1,"at"),(2,"behind"),(2,"low"),(2,"word"),(3,"cell"),(3,"deed"),(4,"box"),(4,"number"),(5,"word"),(6,"at"),(7,"at"),(8,"numbers"),(10,"box"),(10,"number"),(11,"box"),(11,"number"),(12,"box"),(12,"other"),(13,"box"),(14,"box"),(15,"at"),(15,"boxes"),(15,"deeds"),(15,"store"),(16,"many"),(16,"on"),(23,"contents"),(23,"permits")]
  me:=[((8,"copied"),14),((8,"told"),13),((10,"words"),18),((11,"words"),20),((12,"words"),22),((13,"words"),24),((14,"words"),26),((15,"copied"),34),((15,"leave"),32),((15,"leaves"),31),((15,"rows"),33),((15,"state"),30),((16,"words"),38),((17,"words"),39),((18,"words"),40),((19,"words"),41),((20,"words"),42),((21,"words"),43),((22,"words"),44),((23,"copied"),56),((23,"leave"),52),((23,"leaves"),51),((23,"look"),54),((23,"may"),53),((23,"put"),55),((23,"size"),49),((23,"told"),50)]
  ini:=[(1,0),(2,1),(3,2),(4,3),(5,4),(6,5),(7,6),(8,12),(10,17),(11,19),(12,21),(13,23),(14,25),(15,29),(16,37),(23,48)]
  ini0:=[]
  inip:=[17,18,19,20,21,22]
  oc:=[8,9,10,11,12,13,14,15,16,17,18,19,20,21,22,23]
  xc:=[0,1,2,3,4,5,6,7]
  sub:=(((0,0),true)::((0,5),false)::((0,4),false)::((0,2),false)::((0,7),false)::((0,6),false)::((0,1),false)::((0,3),false)::((1,0),true)::((1,5),false)::((1,4),false)::((1,2),false)::((1,7),false)::((1,6),false)::((1,1),true)::((1,3),false)::((2,0),true)::((2,5),false)::((2,4),false)::((2,2),true)::((2,7),false)::((2,6),false)::((2,1),false)::((2,3),false)::((3,0),true)::((3,5),false)::((3,4),false)::((3,2),false)::((3,7),false)::((3,6),false)::((3,1),false)::((3,3),true)::((4,0),true)::((4,5),false)::((4,4),true)::((4,2),false)::((4,7),false)::((4,6),false)::((4,1),false)::((4,3),false)::((5,0),true)::((5,5),true)::((5,4),false)::((5,2),false)::((5,7),false)::((5,6),false)::((5,1),false)::((5,3),false)::((6,0),true)::((6,5),false)::((6,4),false)::((6,2),false)::((6,7),false)::((6,6),true)::((6,1),false)::((6,3),false)::((7,0),true)::((7,5),false)::((7,4),false)::((7,2),false)::((7,7),true)::((7,6),false)::((7,1),false)::((7,3),false)::((8,9),false)::((9,9),true)::((10,9),true)::((11,9),true)::((12,9),true)::((13,9),true)::((14,9),true)::((15,9),false)::((16,9),true)::((17,9),true)::((18,9),true)::((19,9),true)::((20,9),true)::((21,9),true)::((22,9),true)::((23,9),false)::[])
  subT:=[((0,"ValueError"),true),((1,"ValueError"),true),((2,"ValueError"),true),((3,"ValueError"),true),((4,"ValueError"),true),((5,"ValueError"),true),((6,"ValueError"),true),((7,"ValueError"),true),((10,"list"),false),((11,"list"),false),((12,"list"),false),((13,"list"),false),((14,"list"),false),((16,"list"),false),((17,"list"),false),((18,"list"),false),((19,"list"),false),((20,"list"),false),((21,"list"),false),((22,"list"),false)]
  subB:=[(("NoneType","bool"),false),(("NoneType","int"),false),(("NoneType","list"),false),(("NoneType","str"),false),(("bool","bool"),true),(("bool","int"),true),(("bool","list"),false),(("bool","str"),false),(("int","bool"),false),(("int","int"),true),(("int","list"),false),(("int","str"),false),(("str","bool"),false),(("str","int"),false),(("str","list"),false),(("str","str"),true),(("list","bool"),false),(("list","int"),false),(("list","list"),true),(("list","str"),false),(("tuple","bool"),false),(("tuple","int"),false),(("tuple","list"),false),(("tuple","str"),false),(("dict","bool"),false),(("dict","int"),false),(("dict","list"),false),(("dict","str"),false)]
  subO:=[(("NoneType",9),false),(("bool",9),false),(("int",9),false),(("str",9),false),(("list",9),false),(("tuple",9),false),(("dict",9),false)]
/-- what the proofs ask of the addresses -/
structure Ro (K:W.Frag) (R:Rt):Prop where
  hK:R.K=K
  g_BOUND:R.gl "BOUND"=some (.int 1000000000)
  g_MOST_ROWS:R.gl "MOST_ROWS"=some (.int 24)
  g_MOST_HOPPED:R.gl "MOST_HOPPED"=some (.int 24)
  g_MOST_CELLS:R.gl "MOST_CELLS"=some (.int 60)
  g_NAMES:∃ a,R.gl "NAMES"=some (.ref a)/\∀ H,ba K H a [.str "here",.str "there",.str "left",.str "way",.str "sign",.str "met"]
  g_LEAVES:∃ a,R.gl "LEAVES"=some (.ref a)/\∀ H,ba K H a [.str "open",.str "look",.str "shut"]
  e_ne:([10,11,12,13,14,16,17,18,19,20,21,22].all λc=>ie K (R.cad c))=true
end My
set_option Elab.async false
set_option maxHeartbeats 8000000
namespace My
open PySem L2 L3
open L2.V renaming ref→ut,int→v0,str→v4,non→wf
open L2.HO renaming lst→wl,tup→wn,ins→wp
local macro_rules|`(tactic|delta $x:ident)=>`(tactic|refine wc (d:=$x) nofun rfl rfl ?_)
variable {h a x d dx l:Addr}{m i r n at_:Int}{ns:List Int}{v:V}{t:String}{xs ds:List V}{α:Type}{ws:List Str}{G:Gx}{A:aq}{P:V->Prop}{o:Option Int}{Δo:List aq}{ps:List Nat}
section
variable {K:W.Frag}{R:Rt}{k:Nat}{H:Hp}{Q:VK}{E:XK}{O Γ' Δ:List aq}
local macro_rules| `(tactic|walk_at "w")=>`(tactic|conv=>whnf)
local macro_rules| `(tactic|left)=>`(tactic|walk_at "w")
local macro_rules| `(tactic|symm)=>`(tactic|((with_reducible (repeat(first|exact ae.e|apply ae.t)));done))
local macro_rules| `(tactic|ac_rfl)=>`(tactic|((with_reducible (repeat(first|exact bZ.e|apply bZ.t)));done))
local macro_rules| `(tactic|ac_nf)=>`(tactic|first|(with_reducible exact Sub.refl)|(refine' Sub.cons ?h ?r;(case h=>symm);(case r=>ac_nf))|(with_reducible exact Sub.nil)|(with_reducible apply Sub.drop;(ac_nf)))
local macro_rules| `(tactic|walk_at "sp")=>`(tactic|(refine Sep.sub ?_ (by with_reducible assumption);(ac_nf)))
local macro_rules| `(tactic|grind)=>`(tactic|first|exact Sep.get (by with_reducible assumption) (by symm)|exact Sep.Ar (by with_reducible assumption) (by symm))
local macro_rules| `(tactic|walk_at "ar")=>`(tactic|first|lia|omega|decide|exact nw rfl|(unfold qR;omega)|(unfold wz;omega)|(unfold wz;decide)|(unfold qR;decide)|(simp only[ce,length_set,List.length_replicate];omega))
local macro_rules| `(tactic|walk_at "ls")=>`(tactic|first|(conv=>lhs;simp only[List.set_cons_succ,List.set_cons_zero,Int.reduceToNat])|rfl)
local macro_rules| `(tactic|walk_at "pf")=>`(tactic|first|(conv=>lhs;simp (decide:=true) only [b6,if_true,if_false])|rfl)
local macro_rules| `(tactic|walk_at "st")=>`(tactic|first
  |(with_reducible refine And.intro rfl ?_)
  |(with_reducible refine cD rfl ?_)
  |(with_reducible refine cb rfl ?_)
  |(with_reducible refine AW ?_)
  |((with_reducible refine' bE ?e ?v ?_);(case e=>grind);(case v=>exact rfl))
  |((with_reducible refine' iN ?e ?v ?_);(case e=>grind);(case v=>exact rfl))
  |((with_reducible refine' Ct ?e ?i ?v ?_);(case e=>grind);(case i=>omega);(case v=>exact rfl))
  |(with_reducible refine bf_min rfl ?_)
  |(with_reducible refine bf_max rfl ?_)
  |((with_reducible refine' fA ?e ?_);(case e=>grind))
  |((with_reducible refine' bf_lenT ?e ?_);(case e=>grind))
  |((with_reducible refine' ql ?s ?r ?j ?x (λH hs=>?_));(case s=>with_reducible assumption);(case r=>ac_rfl);(case j=>exact rfl);(case x=>walk_at "ls"))
  |((with_reducible refine' tR ?s ?l (λp H hs=>?_));(case s=>with_reducible assumption);(case l=>exact nw rfl))
  |((with_reducible refine' pk ?s ?l (λp H hs=>?_));(case s=>with_reducible assumption);(case l=>exact nw rfl))
  |((with_reducible refine' BH ?s (λp H hs=>?_));(case s=>with_reducible assumption))
  |((with_reducible refine' C7 ?e ?_);(case e=>grind))
  |((with_reducible refine' BF ?e ?_);(case e=>grind))
  |((with_reducible refine' Dh ?s ?e ?f ?l (λp H hs=>?_));(case s=>with_reducible assumption);(case e=>grind);(case f=>grind);(case l=>walk_at "ar"))
  |((with_reducible refine' DA ?s ?e ?f ?g ?l (λp H hs=>?_));(case s=>with_reducible assumption);(case e=>grind);(case f=>walk_at "ar");(case g=>walk_at "ar");(case l=>walk_at "ar"))
  |((with_reducible refine' EK ?s ?r ?o ?n ?l ?x (λH hs=>?_));(case s=>with_reducible assumption);(case r=>ac_rfl);(case o=>exact rfl);(case n=>exact rfl);(case l=>walk_at "ar");(case x=>walk_at "pf"))
  |((with_reducible refine' CB ?e ?o ?n ?l ?_);(case e=>grind);(case o=>exact rfl);(case n=>exact rfl);(case l=>exact rfl))
  |((with_reducible refine' Du ?e ?o ?n ?l ?_);(case e=>grind);(case o=>exact rfl);(case n=>exact rfl);(case l=>exact rfl))
  |((with_reducible refine' C0 ?e ?o ?b ?_);(case e=>grind);(case o=>exact rfl);(case b=>exact rfl))
  |((with_reducible refine' AZ ?e ?o ?b ?_);(case e=>grind);(case o=>exact rfl);(case b=>exact rfl))
  |((with_reducible refine' aT ?t ?b ?_);(case t=>exact rfl);(case b=>exact rfl))
  |((with_reducible refine' eY ?a ?b ?_);(case a=>exact rfl);(case b=>exact rfl))
  |((with_reducible refine' dX ?a ?b ?_);(case a=>exact rfl);(case b=>exact rfl))
  |((with_reducible refine' gM ?s ?e (λp H hs=>?_));(case s=>with_reducible assumption);(case e=>grind))
  |((with_reducible refine' Fn ?s ?e (λp H hs=>?_));(case s=>with_reducible assumption);(case e=>grind))
  |(refine And.intro (by walk_at "ar") ?_))
local macro_rules| `(tactic|walk_at "go")=>`(tactic|(walk_at "w";repeat(walk_at "st";walk_at "w")))
local macro_rules| `(tactic|right)=>`(tactic|walk_at "go")
abbrev hand (h:Addr)(m:Int):aq:=ex λx:Addr×List Int×Int×Int×Int×Int=>k8 (pt h (wl [ut x.1,v0 x.2.2.1,v0 x.2.2.2.1,v0 x.2.2.2.2.1,v0 x.2.2.2.2.2])) (k8 (pt x.1 (wl (x.2.1.map v0)))
 (pu (x.2.1.length<=63/\0<=x.2.2.1/\x.2.2.1<2147483629/\0<=x.2.2.2.1/\0<=x.2.2.2.2.1/\0<=x.2.2.2.2.2/\x.2.2.2.2.2<=m)))
def vh (s:Sep (hand h m::O) H):∃ (c:Addr) (ns:List Int) (fo i r n:Int),Sep (pt h (wl [ut c,v0 fo,v0 i,v0 r,v0 n])::pt c (wl (ns.map v0))::O) H/\ns.length<=63/\0<=fo/\fo<2147483629/\0<=i/\0<=r/\0<=n/\n<=m:=by
 obtain⟨⟨c,ns,fo,i,r,n⟩,s⟩:=Sep.Cd.mp s;have s2:=Sep.star.mp ((Sep.star.mp s).pull .k1);have p:=(s2.pull .k1).pure;exact⟨c,ns,fo,i,r,n,((s2.pull .k1).drop).pull .k1,p⟩
def fX {c:Addr}{fo:Int}(s:Sep (pt h (wl [ut c,v0 fo,v0 i,v0 r,v0 n])::pt c (wl (ns.map v0))::O) H)(p:ns.length<=63/\0<=fo/\fo<2147483629/\0<=i/\0<=r/\0<=n/\n<=m):Sep (hand h m::O) H:=by
 refine Sep.Cd.mpr ⟨⟨c,ns,fo,i,r,n⟩,Sep.star.mpr ?_⟩;exact(Sep.star.mpr (((s.pull .k1).pull .e |> λs=>(Sep.yF p s).pull .k1))).pull .k1
def CD:(10:Int) ^ Int.toNat 18=1000000000000000000:=by decide
def ph (hk:1<=k)(s:Sep (hand h m::O) H)(hm:m<=1099511627776)(hn0:0<n)(hn1:n<1073741824)
  (q:∀ (r:Int) (H':Hp),0<=r->r<n->Sep (hand h (m+1)::O) H'->Q (v0 r) H'):aa tab R k 58 [ut h,v0 n] H Q E:=by
 obtain⟨c,ns,fo,i,r,j,hs,h63,f0,f1,i0,r0,k0,k1⟩:=vh s;clear s;have nn:n≠0:=by omega
 delta gx;right;refine aE (λhr=>?_) (λhr=>?_)
 .right;rename_i H1 hs1 H2 hs2;exact q _ _ (Int.emod_nonneg _ nn) (Int.emod_lt_of_pos _ hn0) (fX hs2 ⟨h63,f0,f1,i0,Int.ediv_nonneg r0 nofun,by omega,by omega⟩)
 right;refine aE (λhc=>?_) (λhc=>?_)
 .right;obtain⟨z,hz⟩:∃ z,jc (ns.map v0) i=some (v0 z):=vn i0 (by rw[ce]at hc;exact hc);refine bE (by grind) hz ?_;right;refine aE (λhz18=>?_) (λhz18=>?_)
  .rw[CD]at hz18;right;rename_i H1 hs1 H2 hs2 H3 hs3;exact q _ _ (Int.emod_nonneg _ nn) (Int.emod_lt_of_pos _ hn0) (fX hs3 ⟨h63,f0,f1,by omega,Int.ediv_nonneg nofun nofun,by omega,by omega⟩)
  .right;rename_i H1 hs1 H2 hs2;exact q _ _ (Int.emod_nonneg _ nn) (Int.emod_lt_of_pos _ hn0) (fX hs2 ⟨h63,f0,f1,by omega,r0,by omega,by omega⟩)
 .right;rename_i H1 hs1;exact q _ _ (Int.emod_nonneg _ nn) (Int.emod_lt_of_pos _ hn0) (fX hs1 ⟨h63,f0,f1,by omega,r0,by omega,by omega⟩)
def Ap (hk:1<=k)(s:Sep O H)(hS:aN R.K H a (ns.map v0))(h63:ns.length<=63)(q:∀ h H',Sep (hand h 0::O) H'->Q (ut h) H'):aa tab R k 57 [ut a] H Q E:=by
 delta gp;right;refine EW s hS (λp H1 hs1=>?_);rw[CG ns h63]at hs1;right;rename_i c H2 hs2;refine qw (xs:=ns.map v0) (λj U H=>∃ (fo:Int) (v:Option V),U=[some (ut a),some (ut c),some (v0 fo),v]/\0<=fo/\fo<2147483629/\Sep (pt c (wl (ns.map v0))::pt p (wl (ns.map v0))::O) H) ?_ ?_ ?_ ?_
 .exact⟨_,none,rfl,by rw[ce];omega,by rw[ce];omega,hs2⟩
 .rintro j U H ⟨fo,v,rfl,h0,h2,hs⟩;exact aN.of hs.at
 .rintro j x U H hx ⟨fo,v,rfl,h0,h2,hs⟩;obtain⟨z,rfl⟩:=nA hx;right;exact⟨_,_,rfl,by omega,by omega,hs⟩
 .rintro U H ⟨fo,v,rfl,h0,h2,hs⟩;right;rename_i l H3 hs3;exact q l _ (fX ((hs3.pull .k2).drop) ⟨h63,h0,h2,by omega,by omega,by omega,by omega⟩)
def ag (s:Sep (hand h m::O) H)(e:m<=n):Sep (hand h n::O) H:=by
 obtain⟨c,ns,fo,i,r,j,hs,h63,f0,f1,i0,r0,k0,k1⟩:=vh s;exact fX hs ⟨h63,f0,f1,i0,r0,k0,by omega⟩
inductive Kd (H:Hp):V->String->Prop where
 |non:Kd H wf "NoneType"
 |bl (b:Bool):Kd H (.bl b) "bool"
 |int (i:Int):Kd H (v0 i) "int"
 |str (x:Str):Kd H (v4 x) "str"
 |lst {a:Addr}{xs:List V}(e:H a=some (wl xs)):Kd H (ut a) "list"
 |tup {a:Addr}{xs:List V}(e:H a=some (wn xs)):Kd H (ut a) "tuple"
 |dct {a:Addr}{kvs:List (Key×V)}(e:Rd H a (.dK kvs)):Kd H (ut a) "dict"
def aX (h:tyName v H=some t):Kd H v t:=by
 unfold tyName at h
 split at h
 .cases h;exact .non
 .cases h;exact .bl _
 .cases h;exact .int _
 .cases h;exact .str _
 .split at h
  .rename_i e;cases h;exact .lst e
  .rename_i e;cases h;exact .tup e
  .rename_i e;cases h;exact .dct (.inl e)
  .rename_i e;cases h;exact .dct (.inr ⟨_,e⟩)
  .cases h
 .cases h
abbrev sR:V->Bool
 | v0 _=>true
 |_=>false
abbrev mM:V->Bool
 | v0 i=>decide (0<=i)&&decide (i<=1000000000)
 |_=>false
def az (hk:1<=k)(ht:tyName v H=some t)(q:Q (.bl (sR v)) H):aa tab R k 7 [v] H Q E:=by
 delta hU;right;cases aX ht
 all_goals
  refine aT ht rfl ?_;right
  first
   |exact q
   |(refine aT ht rfl ?_;right;exact q)
def cS (ro:Ro K R)(hk:2<=k)(ht:tyName v H=some t)(q:Q (.bl (mM v)) H):aa tab R k 8 [v] H Q E:=by
 delta fh;right;refine az nofun ht ?_;cases aX ht
 case int i=>
  right;refine aE (λh0=>?_) (λh0=>?_)
  .left;simp only[ro.g_BOUND];right;have e:mM (v0 i)=decide (i<=1000000000):=by simp[mM,h0]
   rw[e]at q;exact q
  .right;have e:mM (v0 i)=false:=by simp[mM,h0]
   rw[e]at q;exact q
 all_goals
  right;exact q
abbrev bad (xs:List V):Option Int:=if xs.length<1\/60<xs.length then some (-1) else(xs.findIdx? λx=>!mM x).map λn=>(n:Int)
def AI (h:¬ (1<=xs.length/\xs.length<=60)):bad xs=some (-1):=by
 unfold bad;rw[if_pos nofun]
def By {j:Nat}{x:V}(h:1<=xs.length/\xs.length<=60)(hx:xs[j]? =some x)(hc:mM x=false)(hb:∀ i y,i<j->xs[i]? =some y->mM y=true):bad xs=some j:=by
 unfold bad;rw[if_neg nofun];have:xs.findIdx? (λx=>!mM x)=some j:=by
  rw[List.findIdx?_eq_some_iff_getElem];obtain⟨hj,e⟩:=sw.mp hx;refine⟨hj,by rw[e,hc];rfl,λi hi=>?_⟩;rw[hb i xs[i] hi (le _)]
  decide
 rw[this]
 rfl
def lq (h:1<=xs.length/\xs.length<=60)(hb:∀ (i:Nat) y,xs[i]? =some y->mM y=true):bad xs=none:=by
 unfold bad;rw[if_neg nofun];have:xs.findIdx? (λx=>!mM x)=none:=by
  rw[List.findIdx?_eq_none_iff];intro x hx;obtain⟨i,hi⟩:=List.mem_iff_getElem?.mp hx;rw[hb i x hi]
  rfl
 rw[this]
 rfl
def vX (h:bad xs=none):1<=xs.length/\xs.length<=60:=by
 unfold bad at h
 split at h
 .cases h
 .omega
def qk {x:V}{n:Nat}:(ss (Int.toNat (n:Int)) [x]).flatten=ss n x:=by
 rw[re]
 induction n with
 |zero=>rfl
 |succ n ih=>rw[replicate_succ,flatten_cons,ih];rfl
abbrev v8 (C:Addr)(fs:List (Str×V))(x:Addr)(fr:Bool):aq:=ex λd:Addr=>k8 (pt x (.exc C (some d) fs fr)) (pt d (.own x))
def lQ {C:Addr}{fs:List (Str×V)}{fr:Bool}(s:Sep (pt x (.exc C (some d) fs fr)::pt d (.own x)::O) H):Sep (v8 C fs x fr::O) H:=Sep.Cd.mpr ⟨d,Sep.star.mpr s⟩
def sN {C:Addr}{fs:List (Str×V)}{fr:Bool}(s:Sep (v8 C fs x fr::O) H):∃ d,Sep (pt x (.exc C (some d) fs fr)::pt d (.own x)::O) H:=let⟨d,s⟩:=Sep.Cd.mp s;⟨d,Sep.star.mp s⟩
def dF (hk:1<=k)(s:Sep (pt x (.exc (R.cad 1) none [] true)::O) H)(q:∀ d H',Sep (pt x (.exc (R.cad 1) (some d) [("at",v)] true)::pt d (.own x)::O) H'->Q wf H'):aa tab R k 0 [ut x,v] H Q E:=by
 delta bS;right;refine⟨_,1,_,_,_,_,rfl,by grind,rfl,?_⟩;right;refine pQ s rfl rfl (λd H hs=>?_);right;exact q d H hs
def yp (ro:Ro K R)(hk:3<=k)(s:Sep (pt a (wl xs)::tys xs::O) H)(q0:bad xs=none->∀ H',Sep (pt a (wl xs)::tys xs::O) H'->Q wf H')
  (q1:∀ at',bad xs=some at'->∀ x H',Sep (v8 (R.cad 1) [("at",v0 at')] x false::pt a (wl xs)::tys xs::O) H'->E x H'):aa tab R k 45 [ut a] H Q E:=by
 delta ef;right;refine aT (t:="list") (j4 s.at) rfl ?_;right
 by_cases hl:1<=xs.length/\xs.length<=60
 .refine cD (decide_eq_true nofun) ?_;left;simp only[ro.g_MOST_CELLS];right;refine cD (c:=decide ((xs.length:Int)<=60)) (decide_eq_true nofun) ?_;right;refine jS (xs:=xs) (λj U H=>∃ y z,U=[some (ut a),y,z]/\(∀ i w,i<j->xs[i]? =some w->mM w=true)/\Sep (pt a (wl xs)::tys xs::O) H) ?_ ?_ ?_ ?_
  .exact⟨none,none,rfl,λi w h=>absurd h nofun,s⟩
  .rintro j U H ⟨y,z,rfl,_,hs⟩;exact hs.at
  .rintro j x T U H hx ⟨y,z,rfl,hb,hs⟩ hT;have hs1:=hs.iP (xs:=[v0 j,x]) hT;left;refine⟨T,_,rfl,.inl (ba.of hs1.atT),rfl,?_⟩;right;obtain⟨t,ht⟩:=(hs1.pull .k2).Df x (cr hx);refine cS ro nofun ht ?_;right;refine gm (λhc=>?_) (λhc=>?_)
   .right;refine⟨_,_,rfl,λi w hi hw=>?_,hs1.drop⟩
    by_cases e:i=j
    .subst e;rw[hx]at hw;cases hw;exact hc
    .exact hb i w nofun hw
   .right;intro p hp;refine dF nofun (hs1.drop.new hp) (λd H hs=>?_);right;refine g9 hs (by ac_rfl) rfl (λH hs=>?_);exact q1 _ (By hl hx hc hb) p H (lQ hs)
  .rintro U H ⟨y,z,rfl,hb,hs⟩;right;exact q0 (lq hl λi w hi=>hb i w (sw.mp hi).1 hi) _ hs
 .have fin:∀ p,H p=none->aa tab R (k-1) 0 [ut p,v0 (-1)] (upd H p (.exc (R.cad 1) none [] true)) (λv H2=>v=wf/\∃ b i dx fs,ut p=ut b/\H2 b=some (.exc (R.cad i) dx fs true)/\tab.xc.contains i=true/\E b (upd H2 b (.exc (R.cad i) dx fs false))) E:=by
   intro p hp;refine dF nofun (s.new hp) (λd H hs=>?_);refine⟨rfl,?_⟩;refine g9 (G:=⟨tab,R,aa tab R 0,.calm⟩) hs (by ac_rfl) rfl (λH hs=>?_);exact q1 _ (AI hl) p H (lQ hs)
  by_cases h1:1<=xs.length
  .refine cD (decide_eq_true nofun) ?_;left;simp only[ro.g_MOST_CELLS];right;refine cb (c:=decide ((xs.length:Int)<=60)) (decide_eq_false nofun) ?_;right;exact fin
  .refine cb (decide_eq_false nofun) ?_;right;exact fin
abbrev aB (C p:Addr)(cs ws:List V):aq:=ex λx:Addr×Addr×Addr=>k8 (pt p (wp C x.1 [("contents",ut x.2.1),("permits",ut x.2.2)])) (k8 (pt x.1 (.own p)) (k8 (pt x.2.1 (wl cs)) (pt x.2.2 (wl ws))))
def a6 {C p:Addr}{cs ws:List V}(s:Sep (aB C p cs ws::O) H):∃ dx a b,Sep (pt p (wp C dx [("contents",ut a),("permits",ut b)])::pt dx (.own p)::pt a (wl cs)::pt b (wl ws)::O) H:=by
 obtain⟨⟨dx,a,b⟩,s⟩:=Sep.Cd.mp s;refine⟨dx,a,b,?_⟩;have s1:=Sep.star.mp s;have s2:=Sep.star.mp (s1.pull .k1);have s3:=Sep.star.mp (s2.pull .k1);exact((s3.pull .k2).pull .k3)
def bC {C p b:Addr}{cs ws:List V}(s:Sep (pt p (wp C dx [("contents",ut a),("permits",ut b)])::pt dx (.own p)::pt a (wl cs)::pt b (wl ws)::O) H):Sep (aB C p cs ws::O) H:=by
 refine Sep.Cd.mpr ⟨(dx,a,b),Sep.star.mpr ?_⟩;have s3:=Sep.star.mpr ((s.pull .k3).pull .k3);have s2:=Sep.star.mpr (s3.pull .k2);exact s2.pull .k1
def ki {p:Addr}(ro:Ro K R)(hk:4<=k)(s:Sep (pt p (wp (R.cad 23) dx [])::pt dx (.own p)::pt a (wl xs)::tys xs::O) H)
  (q0:bad xs=none->∀ H',Sep (aB (R.cad 23) p xs (ss xs.length (v4 "open"))::pt a (wl xs)::tys xs::O) H'->Q wf H')
  (q1:∀ at',bad xs=some at'->∀ x H',Sep (v8 (R.cad 1) [("at",v0 at')] x false::pt a (wl xs)::tys xs::O) H'->E x H'):aa tab R k 48 [ut p,ut a] H Q E:=by
 delta cB;right;refine yp (O:=pt p (wp (R.cad 23) dx [])::pt dx (.own p)::O) ro nofun (s.sub (by ac_nf)) (λhb H hs=>?_) (λat' hb x H hs=>?_)
 .have hl:=vX hb;right;rename_i l H1 hs1 H2 hs2 m H3 hs3 w H4 hs4 H5 hs5;rw[qk]at hs5;exact q0 hb _ (bC (hs5.sub (by ac_nf)))
 .exact q1 at' hb x H (hs.sub (by ac_nf))
def sv {C p:Addr}{cs ws:List V}(s:Sep O H)(h:ae (aB C p cs ws) O Δ):∃ dx a b,H p=some (wp C dx [("contents",ut a),("permits",ut b)]):=by
 obtain⟨dx,a,b,hs⟩:=a6 (s.pull h);exact⟨dx,a,b,hs.at⟩
def B0 {p:Addr}{cs ws:List V}(hk:1<=k)(s:Sep (aB (R.cad 23) p cs ws::O) H)(q:Q (v0 cs.length) H):aa tab R k 49 [ut p] H Q E:=by
 obtain⟨dx,a,b,hs⟩:=a6 s;delta fv;right;exact q
def AK {p:Addr}{cs ws:List V}(hk:1<=k)(s:Sep (aB (R.cad 23) p cs ws::O) H)(q:∀ l H',Sep (pt l (wl cs)::aB (R.cad 23) p cs ws::O) H'->Q (ut l) H'):aa tab R k 50 [ut p] H Q E:=by
 obtain⟨dx,a,b,hs⟩:=a6 s;delta cU;right;rename_i l H1 hs1;exact q l H1 ((bC (hs1.sub (by ac_nf))).pull .k1)
def ua {p:Addr}{cs ws:List V}(hk:1<=k)(s:Sep (aB (R.cad 23) p cs ws::O) H)(q:∀ l H',Sep (pt l (wl ws)::aB (R.cad 23) p cs ws::O) H'->Q (ut l) H'):aa tab R k 51 [ut p] H Q E:=by
 obtain⟨dx,a,b,hs⟩:=a6 s;delta bM;right;rename_i l H1 hs1;exact q l H1 ((bC (hs1.sub (by ac_nf))).pull .k1)
def gO {xs:List α}{x:α}(h0:0<=i)(hx:xs[i.toNat]? =some x):jc xs i=some x:=by
 have h:=L2.gN hx
 rwa [Int.toNat_of_nonneg h0]at h
def iy {w z:V}(hk:1<=k)(s:Sep (pt x (.exc (R.cad 2) none [] true)::O) H)(q:∀ d H',Sep (pt x (.exc (R.cad 2) (some d) [("low",v),("behind",w),("word",z)] true)::pt d (.own x)::O) H'->Q wf H'):aa tab R k 1 [ut x,v,w,z] H Q E:=by
 delta bV;right;refine⟨_,2,_,_,_,_,rfl,by grind,rfl,?_⟩;right;refine pQ s rfl rfl (λd H hs=>?_);right;refine DI hs (by ac_rfl) rfl rfl (nw rfl) rfl (λH hs=>?_);right;refine DI hs (by ac_rfl) rfl rfl (nw rfl) rfl (λH hs=>?_);right;exact q d H hs
abbrev eA (w:Str):Bool:="open" ==w||("look" ==w||("shut" ==w||false))
abbrev cQ:V->Bool
 | v4 w=>eA w
 |_=>false
def nu (ro:Ro K R)(hk:1<=k)(ht:tyName v H=some t)(q:Q (.bl (cQ v)) H):aa tab R k 46 [v] H Q E:=by
 delta iS;right;cases aX ht
 case str x=>
  right;obtain⟨a,hg,hs⟩:=ro.g_LEAVES;simp only[hg];right;exact Ds (xs:=[v4 "open",v4 "look",v4 "shut"]) (ro.hK▸hs _) rfl rfl q
 all_goals
  refine aT ht rfl ?_;right;exact q
abbrev ao (n:Nat):V->V->Bool
 | v0 a,v0 b=>decide (0<=a)&&(decide (a<=b)&&decide (b<=n))
 |_,_=>false
def lj {w:V}{u:String}{n:Nat}(hk:2<=k)(ht:tyName v H=some t)(hu:tyName w H=some u)(q:Q (.bl (ao n v w)) H):aa tab R k 47 [v,w,v0 n] H Q E:=by
 delta gw;right;refine az nofun ht ?_;cases aX ht
 case int i=>
  right;refine az nofun hu ?_;cases aX hu
  case int j=>
   right;refine aE (λh0=>?_) (λh0=>?_)
   .right;refine aE (λh1=>?_) (λh1=>?_)
    .right;have e:ao n (v0 i) (v0 j)=decide (j<=n):=by simp[ao,h0,h1]
     rw[e]at q;exact q
    .right;have e:ao n (v0 i) (v0 j)=false:=by simp[ao,h1]
     rw[e]at q;exact q
   .right;have e:ao n (v0 i) (v0 j)=false:=by simp[ao,h0]
    rw[e]at q;exact q
  all_goals
   right;exact q
 all_goals
  right;exact q
abbrev cV (w:Str)(ws:List Str)(lo:Nat):Nat->List Str
 |0=>ws
 |n+1=>(cV w ws lo n).set (lo+n) w
def fH {w:Str}{ws:List Str}{lo:Nat}:∀ n,(cV w ws lo n).length=ws.length
 |0=>rfl
 |n+1=>by rw[cV,length_set,fH n]
def pR {p:Addr}{cs:List V}{v1 v2 v3:V}{t1 t2 t3:String}(ro:Ro K R)(hk:3<=k)(s:Sep (aB (R.cad 23) p cs (ws.map v4)::O) H)(hl:cs.length=ws.length)(h60:ws.length<=60)
  (ht1:tyName v1 H=some t1) (ht2:tyName v2 H=some t2) (ht3:tyName v3 H=some t3)
  (q0:∀ a b w,v1=v0 a->v2=v0 b->v3=v4 w->ao ws.length v1 v2=true->eA w=true->∀ H',Sep (aB (R.cad 23) p cs ((cV w ws a.toNat (b-a).toNat).map v4)::O) H'->Q wf H')
  (q1:(ao ws.length v1 v2&&cQ v3)=false->∀ x H',Sep (v8 (R.cad 2) [("low",v1),("behind",v2),("word",v3)] x false::aB (R.cad 23) p cs (ws.map v4)::O) H'->E x H'):aa tab R k 52 [ut p,v1,v2,v3] H Q E:=by
 delta d8;obtain⟨dx,a,b,e⟩:=sv s .e;right;refine⟨_,23,_,_,_,rfl,e,rfl,rfl,?_⟩;left;refine B0 nofun s ?_;left;rw[hl];refine lj nofun ht1 ht2 ?_;right;have fin:(ao ws.length v1 v2&&cQ v3)=false->∀ x,H x=none->aa tab R (k-1) 1 [ut x,v1,v2,v3] (upd H x (.exc (R.cad 2) none [] true)) (λv H2=>v=wf/\∃ b i dx fs,ut x=ut b/\H2 b=some (.exc (R.cad i) dx fs true)/\tab.xc.contains i=true/\E b (upd H2 b (.exc (R.cad i) dx fs false))) E:=by
  intro hb x hx;refine iy nofun (s.new hx) (λd H hs=>?_);refine⟨rfl,?_⟩;refine g9 (G:=⟨tab,R,aa tab R 0,.calm⟩) hs (by ac_rfl) rfl (λH hs=>?_);exact q1 hb x H (lQ hs)
 refine gm (λhw=>?_) (λhw=>?_)
 .right;refine nu ro nofun ht3 ?_;right;refine gm (λhv=>?_) (λhv=>?_)
  .obtain⟨i,j,rfl,rfl⟩:∃ i j,v1=v0 i/\v2=v0 j:=by
    unfold ao at hw
    split at hw
    .exact⟨_,_,rfl,rfl⟩
    .cases hw
   obtain⟨w,rfl⟩:∃ w,v3=v4 w:=by
    unfold cQ at hv
    split at hv
    .exact⟨_,rfl⟩
    .cases hv
   have hw':0<=i/\i<=j/\j<=ws.length:=by simpa[ao] using hw
   right;refine dN (λn U H=>∃ y,U=[some (ut p),some (v0 i),some (v0 j),some (v4 w),y]/\Sep (aB (R.cad 23) p cs ((cV w ws i.toNat n).map v4)::O) H) ?_ ?_ ?_
   .exact⟨none,rfl,s⟩
   .rintro n U H hn ⟨y,rfl,hs⟩;obtain⟨dx,a,b,hs⟩:=a6 hs;right;refine ql hs (by ac_rfl) (uM nofun (by rw[ce,fH];omega)) rfl (λH hs=>?_);right;refine⟨_,rfl,?_⟩;have e:((cV w ws i.toNat n).map v4).set (i+(n:Int)).toNat (v4 w)=(cV w ws i.toNat (n+1)).map v4:=by
     rw[cV,List.map_set,show(i+(n:Int)).toNat=i.toNat+n by omega]
    rw[e]at hs;exact bC hs
   .rintro U H ⟨y,rfl,hs⟩;right;exact q0 i j w rfl rfl rfl hw hv H hs
  .right;exact fin (by rw[hv,Bool.and_false])
 .right;exact fin (by rw[hw,Bool.false_and])
def j3:(10:Int) ^ Int.toNat 9=1000000000:=by decide
local macro_rules| `(tactic|walk_at "dr")=>`(tactic|(refine' ph ?k ?s ?m ?a ?b (λr H hr0 hr1 hs=>?_);(case s=>walk_at "sp");(case k=>exact nofun);(case m=>omega);(case a=>walk_at "ar");(case b=>walk_at "ar")))
local macro_rules| `(tactic|walk_at "gd")=>`(tactic|(walk_at "w";repeat(first|(walk_at "st";walk_at "w")|(walk_at "dr";walk_at "w"))))
def jy (hk:2<=k)(s:Sep (hand h m::O) H)(hm:m<=1099511000000)(q:∀ i H',0<=i->i<=1000000000->Sep (hand h (m+3)::O) H'->Q (v0 i) H'):aa tab R k 59 [ut h] H Q E:=by
 delta dz;walk_at "gd";refine bz (λh0=>?_) (λh0=>?_)
 .walk_at "gd";rename_i r H2 hr0 hr1 hs2;exact q _ _ nofun nofun (ag hs2 nofun)
 walk_at "gd";refine bz (λh1=>?_) (λh1=>?_)
 .walk_at "gd";rename_i r H2 hr0 hr1 hs2;exact q _ _ (by rw[j3];omega) (by rw[j3];omega) (ag hs2 nofun)
 walk_at "gd";refine bz (λh2=>?_) (λh2=>?_)
 .walk_at "gd";rename_i r H2 hr0 hr1 hs2;exact q _ _ nofun nofun (ag hs2 nofun)
 walk_at "gd";rename_i r H2 hr0 hr1 hs2 r' H3 hr0' hr1' hs3;rw[j3];exact q _ _ nofun nofun (ag hs3 nofun)
abbrev bH (ns:List Int):Prop:=∀ i ∈ ns,0<=i/\i<=1000000000
def oz (h:bH ns)(h0:0<=i)(h1:i<=1000000000):bH (ns++[i]):=λj hj=>by
 rcases mem_append.mp hj with hj|hj
 .exact h j hj
 .rw[mem_singleton.mp hj];exact⟨h0,h1⟩
def yo {M:Int}(hk:3<=k)(s:Sep (hand h m::O) H)(hm:m<=1099510000000)(hM0:1<=M)(hM1:M<=60)(q:∀ p ns H',1<=ns.length->(ns.length:Int)<=M->bH ns->Sep (pt p (wl (ns.map v0))::hand h (m+300)::O) H'->Q (ut p) H'):aa tab R k 60 [ut h,v0 M] H Q E:=by
 delta fe;walk_at "gd";rename_i wy H1 wy0 wy1 hs1 mn H2 mn0 mn1 hs2;have st:∀ {D:Addr},H2 D=none->(∃ ns,([]:List V)=ns.map v0/\bH ns)/\Sep (pt D (wl [])::hand h (m+2+4*((([]:List V).length:Nat):Int))::O) (upd H2 D (wl [])):=λ{D} hD=>by
  refine⟨⟨[],rfl,λi hi=>absurd hi (by simp)⟩,?_⟩;have s1:=hs2.new (o:=wl []) hD;exact(ag (s1.pull .k1) (by simp;omega)).pull .k1
 have sp:∀ {D:Addr}{ys:List V}{i n:Int}{x:Option V}{rest:St}{H:Hp},((ys.length:Nat):Int)<1+mn->(∃ ns,ys=ns.map v0/\bH ns)->0<=i->i<=1000000000->n<=m+2+4*((ys.length+1:Nat):Int)->Sep (hand h n::pt D (wl ys)::O) H->pz (λD ys H=>(∃ ns,ys=ns.map v0/\bH ns)/\Sep (pt D (wl ys)::hand h (m+2+4*((ys.length:Nat):Int))::O) H) D ys rest x (v0 i) H:=λ{D ys i n x rest H} hl hI h0 h1 hn hs=>by
  obtain⟨ns,e,hc⟩:=hI;refine pz.mk (by grind) nofun ⟨⟨ns++[i],by rw[e];simp,oz hc h0 h1⟩,?_⟩;have hs7:=(hs.pull .k1).set (o':=wl (ys++[v0 i])) rfl;refine(ag (hs7.pull .k1) ?_).pull .k1;rw[ci];exact hn
 have fi:∀ {D:Addr}{ys:List V}{H:Hp},ys.length=(1+mn).toNat->((∃ ns,ys=ns.map v0/\bH ns)/\Sep (pt D (wl ys)::hand h (m+2+4*((ys.length:Nat):Int))::O) H)->Q (ut D) H:=λ{D ys H} hl hI=>by
  obtain⟨⟨ns,rfl,hc⟩,hs⟩:=hI;rw[ce]at hl;refine q D ns H nofun nofun hc ?_;exact(ag (hs.pull .k1) (by rw[ce];omega)).pull .k1
 refine bz (λh0=>?_) (λh0=>?_)
 .walk_at "gd";refine oZ (n:=(1+mn).toNat) nofun (λD ys H=>(∃ ns,ys=ns.map v0/\bH ns)/\Sep (pt D (wl ys)::hand h (m+2+4*((ys.length:Nat):Int))::O) H) (λD hD=>st hD) (λD ys H hl hI=>?_) (λD ys H hl hI=>fi hl hI);obtain⟨hI,hs⟩:=hI;walk_at "gd";rename_i r H6 r0 r1 hs6;exact sp nofun hI nofun nofun nofun hs6
 walk_at "gd";refine bz (λh1=>?_) (λh1=>?_)
 .walk_at "gd";refine oZ (n:=(1+mn).toNat) nofun (λD ys H=>(∃ ns,ys=ns.map v0/\bH ns)/\Sep (pt D (wl ys)::hand h (m+2+4*((ys.length:Nat):Int))::O) H) (λD hD=>st hD) (λD ys H hl hI=>?_) (λD ys H hl hI=>fi hl hI);obtain⟨hI,hs⟩:=hI;walk_at "gd";rename_i r H6 r0 r1 hs6;exact sp nofun hI nofun nofun nofun hs6
 walk_at "gd";refine oZ (n:=(1+mn).toNat) nofun (λD ys H=>(∃ ns,ys=ns.map v0/\bH ns)/\Sep (pt D (wl ys)::hand h (m+2+4*((ys.length:Nat):Int))::O) H) (λD hD=>st hD) (λD ys H hl hI=>?_) (λD ys H hl hI=>fi hl hI);obtain⟨hI,hs⟩:=hI;walk_at "gd";refine jy nofun (hs.pull .k1) nofun (λi H i0 i1 hs=>?_);exact sp nofun hI i0 i1 nofun hs
abbrev bx (f:α->List aq):aq:=⟨λH D=>∃ x,aQ (f x) H D,λH H' D ⟨x,h⟩ k t=>⟨x,aQ.st h k t⟩,λH D D' ⟨x,h⟩ k=>⟨x,aQ.up h k⟩⟩
def fc:∀ {O Δ:List aq}{D:Addr->Prop},aQ (O++Δ) H D ↔ ∃ D1 D2:Addr->Prop,(∀ a,D1 a->D a)/\(∀ a,D2 a->D a)/\(∀ a,D1 a->D2 a->False)/\aQ O H D1/\aQ Δ H D2
 | [],Δ,D=>⟨λh=>⟨λ_=>False,D,λ_ z=>z.elim,λ_ z=>z,λ_ z _=>z,True.intro,h⟩,λ⟨_,_,_,s2,_,_,h⟩=>aQ.up h s2⟩
 |A::O,Δ,D=>by
  constructor
  .rintro⟨E1,E2,s1,s2,dj,hA,h⟩;obtain⟨F1,F2,t1,t2,dk,h1,h2⟩:=fc.mp h;refine⟨λa=>E1 a\/F1 a,F2,λa z=>z.elim (s1 a) λz=>s2 a (t1 a z),λa z=>s2 a (t2 a z),λa z w=>z.elim (λz=>dj a z (t2 a w)) λz=>dk a z w,?_,h2⟩;exact⟨E1,F1,λa z=>.inl z,λa z=>.inr z,λa z w=>dj a z (t1 a w),hA,h1⟩
  .rintro⟨D1,D2,s1,s2,dj,⟨E1,E2,t1,t2,dk,hA,h1⟩,h2⟩;refine⟨E1,λa=>E2 a\/D2 a,λa z=>s1 a (t1 a z),λa z=>z.elim (λz=>s1 a (t2 a z)) (s2 a),λa z w=>w.elim (dk a z) λw=>dj a (t1 a z) w,hA,?_⟩;exact fc.mpr ⟨E2,D2,λa z=>.inl z,λa z=>.inr z,λa z w=>dj a (t2 a z) w,h1,h2⟩
def x8 {f:α->List aq}(s:Sep (bx f::O) H):∃ x,Sep (f x++O) H:=by
 obtain⟨D,k,D1,D2,s1,s2,dj,⟨x,h1⟩,h2⟩:=s;exact⟨x,D,k,fc.mpr ⟨D1,D2,s1,s2,dj,h1,h2⟩⟩
def pj {f:α->List aq}(x:α)(s:Sep (f x++O) H):Sep (bx f::O) H:=by
 obtain⟨D,k,h⟩:=s;obtain⟨D1,D2,s1,s2,dj,h1,h2⟩:=fc.mp h;exact⟨D,k,D1,D2,s1,s2,dj,⟨x,h1⟩,h2⟩
abbrev rX:List Str:=["here","there","left","way","sign","met"]
abbrev yj:List Key:=[.inr "here",.inr "there",.inr "left",.inr "way",.inr "sign",.inr "met"]
abbrev iw:V->Bool
 | v0 i=>decide (-1000000000<=i)&&decide (i<=1000000000)
 |_=>false
abbrev qH (a b:Int):V->Bool
 | v0 i=>i ==a||i ==b
 |_=>false
abbrev eJ:Nat->V->Bool
 |0,v=>iw v
 |1,v=>iw v
 |3,v=>qH 1 (-1) v
 |5,v=>qH 0 1 v
 |_,v=>mM v
def du (ro:Ro K R)(hk:2<=k)(ht:tyName v H=some t)(q:Q (.bl (iw v)) H):aa tab R k 10 [v] H Q E:=by
 delta gq;right;refine az nofun ht ?_;cases aX ht
 case int i=>
  left;refine cD rfl ?_;left;simp only[ro.g_BOUND];right;refine aE (λh0=>?_) (λh0=>?_)
  .left;simp only[ro.g_BOUND];right;have e:iw (v0 i)=decide (i<=1000000000):=by simp[iw,h0]
   rw[e]at q;exact q
  .right;have e:iw (v0 i)=false:=by simp[iw,h0]
   rw[e]at q;exact q
 all_goals
  right;exact q
def oM {j:Nat}{x:Str}(h:rX[j]? =some x):(j=0/\x="here")\/(j=1/\x="there")\/(j=2/\x="left")\/(j=3/\x="way")\/(j=4/\x="sign")\/(j=5/\x="met"):=by
 rcases j with _|_|_|_|_|_|j
 .cases h;exact .inl ⟨rfl,rfl⟩
 .cases h;exact .inr (.inl ⟨rfl,rfl⟩)
 .cases h;exact .inr (.inr (.inl ⟨rfl,rfl⟩))
 .cases h;exact .inr (.inr (.inr (.inl ⟨rfl,rfl⟩)))
 .cases h;exact .inr (.inr (.inr (.inr (.inl ⟨rfl,rfl⟩))))
 .cases h;exact .inr (.inr (.inr (.inr (.inr ⟨rfl,rfl⟩))))
 .exact absurd h (by simp[rX])
local macro_rules| `(tactic|walk_at "sc")=>`(tactic|first|(refine cD (by decide+kernel) ?_;walk_at "go")|(refine cb (by decide+kernel) ?_;walk_at "go"))
def B5 {j:Nat}{x:Str}(ro:Ro K R)(hk:3<=k)(hj:rX[j]? =some x)(ht:tyName v H=some t)(q:Q (.bl (eJ j v)) H):aa tab R k 11 [v4 x,v] H Q E:=by
 delta t6;rcases oM hj with⟨rfl,rfl⟩|⟨rfl,rfl⟩|⟨rfl,rfl⟩|⟨rfl,rfl⟩|⟨rfl,rfl⟩|⟨rfl,rfl⟩
 all_goals right
 all_goals repeat walk_at "sc"
 .exact du ro nofun ht q
 .exact du ro nofun ht q
 .exact cS ro nofun ht q
 .refine az nofun ht ?_;cases aX ht
  case int i=>
   right;refine bz (λh0=>?_) (λh0=>?_)
   .right;have e:eJ 3 (v0 i)=true:=by simp[eJ,qH,h0]
    rw[e]at q;exact q
   .right;have e:eJ 3 (v0 i)=(i == -1):=by simp[eJ,qH,h0]
    rw[e]at q;exact q
  all_goals
   right;exact q
 .exact cS ro nofun ht q
 .refine az nofun ht ?_;cases aX ht
  case int i=>
   right;refine bz (λh0=>?_) (λh0=>?_)
   .right;have e:eJ 5 (v0 i)=true:=by simp[eJ,qH,h0]
    rw[e]at q;exact q
   .right;have e:eJ 5 (v0 i)=(i ==1):=by simp[eJ,qH,h0]
    rw[e]at q;exact q
  all_goals
   right;exact q
abbrev boxes (R:Rt)(b:Addr)(ns:List Int):aq:=bx λx:Addr×Addr=>[pt b (wp (R.cad 8) x.1 [("numbers",ut x.2)]),pt x.1 (.own b),pt x.2 (.dK (yj.zip (ns.map v0))),pu (ns.length=6)]
def gJ {b:Addr}(s:Sep (boxes R b ns::O) H):∃ dx d,ns.length=6/\Sep (pt b (wp (R.cad 8) dx [("numbers",ut d)])::pt dx (.own b)::pt d (.dK (yj.zip (ns.map v0)))::O) H:=by
 obtain⟨⟨dx,d⟩,s⟩:=x8 s;have s:Sep (pt b (wp (R.cad 8) dx [("numbers",ut d)])::pt dx (.own b)::pt d (.dK (yj.zip (ns.map v0)))::pu (ns.length=6)::O) H:=s;have p:=(s.pull .k3).pure;exact⟨dx,d,p,(s.pull .k3).drop⟩
def eX {b:Addr}(hn:ns.length=6)(s:Sep (pt b (wp (R.cad 8) dx [("numbers",ut d)])::pt dx (.own b)::pt d (.dK (yj.zip (ns.map v0)))::O) H):Sep (boxes R b ns::O) H:=
 pj (dx,d) (Sep.push .k3 (Sep.yF hn s))
def six {ns:List α}(h:ns.length=6):∃ a b c d e f,ns=[a,b,c,d,e,f]:=by
 match ns,h with
 | [a,b,c,d,e,f],_=>exact⟨a,b,c,d,e,f,rfl⟩
def qr {j:Nat}{x:Str}(hn:ns.length=6)(hj:rX[j]? =some x):∃ i,ns[j]? =some i/\gB (yj.zip (ns.map v0)) (.inr x)=some (v0 i):=by
 obtain⟨a,b,c,d,e,f,rfl⟩:=six hn;rcases oM hj with⟨rfl,rfl⟩|⟨rfl,rfl⟩|⟨rfl,rfl⟩|⟨rfl,rfl⟩|⟨rfl,rfl⟩|⟨rfl,rfl⟩<;>exact⟨_,rfl,rfl⟩
def yP {b:Addr}(ro:Ro K R)(hk:1<=k)(s:Sep (boxes R b ns::O) H)(q:∀ t H',Sep (tu t (ns.map v0)::boxes R b ns::O) H'->Q (ut t) H'):aa tab R k 13 [ut b] H Q E:=by
 obtain⟨dx,d,hn,s⟩:=gJ s;delta cW;right;obtain⟨a,hg,hS⟩:=ro.g_NAMES;simp only[hg];rw[<-ro.hK]at hS;right;refine CI (hS H) ?_;refine uN (xs:=rX.map v4) (nw rfl) (λD ys H=>ys=(ns.map v0).take ys.length/\Sep (pt D (wl ys)::pt b (wp (R.cad 8) dx [("numbers",ut d)])::pt dx (.own b)::pt d (.dK (yj.zip (ns.map v0)))::O) H) ?_ ?_ ?_ ?_
 .intro D ys H _;exact hS H
 .intro D hD;exact⟨rfl,s.new hD⟩
 .rintro D ys x H' hx ⟨e,hs⟩;rw[im]at hx;obtain⟨z,hz,rfl⟩:=mo.mp hx;obtain⟨i,h1,h2⟩:=qr hn hz;right;refine lM (k:=.inr z) (by grind) h2 ?_;have hlt:=(sw.mp h1).1;refine pz.mk (by grind) nofun ⟨?_,?_⟩
  .have e2:(ns.map v0)[ys.length]? =some (v0 i):=by rw[im,h1];rfl
   rw[ci,f8,take_succ,e2]
   conv=>lhs;rw[e]
   rfl
  .exact hs.set rfl
 .rintro D ys H' hl ⟨e,hs⟩;have e2:ys=ns.map v0:=by
   rw[e,hl];rw[take_of_length_le];simp[rX,hn]
  subst e2;right;refine pd hs (by grind) (λp H hs=>?_);right;refine q p H ?_;refine Sep.pull .k1 (eX (dx:=dx) (d:=d) hn ?_);walk_at "sp"
def pI (ro:Ro K R)(hk:4<=k)(hn:ns.length=6)(hf:∀ (j:Nat) i,ns[j]? =some i->eJ j (v0 i)=true) (s:Sep (pt x (wp (R.cad 8) dx [])::pt dx (.own x)::O) H) (q:∀ H',Sep (boxes R x ns::O) H'->Q wf H'):
  aa tab R k 12 (ut x::ns.map v0) H Q E:=by
 obtain⟨a0,a1,a2,a3,a4,a5,rfl⟩:=six hn;delta cH;right;rename_i p H1 hs1;obtain⟨na,hg,hS⟩:=ro.g_NAMES;simp only[hg];rw[<-ro.hK]at hS;right;refine E9 (tp1:=true) (tp2:=true) (xs:=rX.map v4) (ys:=[v0 a0,v0 a1,v0 a2,v0 a3,v0 a4,v0 a5]) (hS _) (ba.of hs1.at) ?_;refine yl (xs:=rX.map v4) (ys:=[v0 a0,v0 a1,v0 a2,v0 a3,v0 a4,v0 a5]) (λj U H=>∃ v w,U=[some (ut x),some (v0 a0),some (v0 a1),some (v0 a2),some (v0 a3),some (v0 a4),some (v0 a5),some (ut p),v,w]/\Sep (pt p (wn [v0 a0,v0 a1,v0 a2,v0 a3,v0 a4,v0 a5])::pt x (wp (R.cad 8) dx [])::pt dx (.own x)::O) H) rfl ?_ ?_ ?_ ?_
 .exact⟨none,none,rfl,hs1⟩
 .rintro j U H ⟨v,w,rfl,hs⟩;exact⟨hS _,ba.of hs.at⟩
 .rintro j y z T U H hy hz ⟨v,w,rfl,hs⟩ hT;rw[im]at hy;obtain⟨nm,hnm,rfl⟩:=mo.mp hy;obtain⟨i,hi,rfl⟩:∃ i,([a0,a1,a2,a3,a4,a5]:List Int)[j]? =some i/\z=v0 i:=by
   have hz':(([a0,a1,a2,a3,a4,a5]:List Int).map v0)[j]? =some z:=hz;rw[im]at hz';obtain⟨i,h1,h2⟩:=mo.mp hz';exact⟨i,h1,h2.symm⟩
  have hs2:=hs.iP (xs:=[v4 nm,v0 i]) hT;left;refine⟨T,_,rfl,.inl (ba.of hs2.atT),rfl,?_⟩;right;refine B5 ro nofun hnm rfl ?_;rw[hf j i hi];right;exact⟨_,_,rfl,hs2.drop⟩
 .rintro U H ⟨v,w,rfl,hs⟩;right;simp only[hg];right;refine Dv (tp1:=true) (tp2:=true) (ks:=yj) (ys:=([a0,a1,a2,a3,a4,a5]:List Int).map v0) hs (hS _) (ba.of hs.at) (by decide+kernel) rfl (nw rfl) (λd H2 hs2=>?_);right;rename_i H3 hs3;refine q _ ?_;refine eX (dx:=dx) (d:=d) rfl ?_;walk_at "sp"
def rQ {b:Addr}(ro:Ro K R)(hk:5<=k)(s:Sep (boxes R b ns::O) H)(q:∀ c H',Sep (boxes R c ns::boxes R b ns::O) H'->Q (ut c) H'):aa tab R k 14 [ut b] H Q E:=by
 delta de;right;intro x dx h1 h2 h3;refine pI (ns:=[0,0,0,1,0,0]) ro nofun rfl ?_ (d4 s h1 h2 h3) (λH1 hs1=>?_)
 .intro j i hi;rcases j with _|_|_|_|_|_|j<;>first|(cases hi;rfl)|exact absurd hi (by simp)
 refine⟨rfl,?_⟩;obtain⟨dx1,d1,hn1,hs2⟩:=gJ hs1;obtain⟨dx2,d2,hn2,hs3⟩:=gJ (hs2.pull .k3);right;refine xS hs3 (by grind) (λd3 H3 hs4=>?_);right;rename_i H4 hs5;refine q _ _ ?_;refine eX (dx:=dx1) (d:=d3) hn2 ?_;refine Sep.push .k3 (eX (dx:=dx2) (d:=d2) hn2 ?_);walk_at "sp"
abbrev DW:V->Bool
 | v4 x=>Cb (v4 x) (rX.map v4)
 |_=>false
def yG (ro:Ro K R)(hk:1<=k)(ht:tyName v H=some t)(q:Q (.bl (DW v)) H):aa tab R k 9 [v] H Q E:=by
 delta lA;right;obtain⟨a,hg,hs⟩:=ro.g_NAMES;have hs':=hs H;rw[<-ro.hK]at hs';cases aX ht
 case str x=>
  refine aT ht rfl ?_;left;refine cD rfl ?_;left;simp only[hg];right;exact Ds hs' rfl rfl q
 all_goals
  refine aT ht rfl ?_;right;exact q
def Ay {j:Nat}{x:Str}(hj:rX[j]? =some x):DW (v4 x)=true:=by
 rcases oM hj with⟨rfl,rfl⟩|⟨rfl,rfl⟩|⟨rfl,rfl⟩|⟨rfl,rfl⟩|⟨rfl,rfl⟩|⟨rfl,rfl⟩<;>rfl
abbrev Ob (R:Rt)(A:aq)(b:Addr)(i:Nat)(fl:List Str):Prop:=∀ H D,A.p H D->∃ dx fs,H b=some (wp (R.cad i) dx fs)/\fs.map (·.1)=fl
def pE {m:Str}:∀ {fs:List (Str×V)},(fs.map (·.1)).all (λx=>!(m ==x))=true->fs.lookup m=none
 | [],_=>rfl
 |(x,v)::fs,h=>by
  simp only[map_cons,all_cons,lw]at h;have h1:(m ==x)=false:=by simpa using h.1
  rw[lookup_cons,h1];exact pE h.2
def ai {b:Addr}{i f:Nat}{fl:List Str}{m:Str}{X:Nat->Prop}(o:Ob G.R A b i fl)(s:Sep O H)(p:ae A O Δ)(hm:fl.all (λx=>!(m ==x))=true) (hf:G.T.me.lookup (i,m)=some f) (h:X f):
  ∃ p' i' dx fs f',ut b=ut p'/\H p'=some (wp (G.R.cad i') dx fs)/\fs.lookup m=none/\G.T.me.lookup (i',m)=some f'/\X f':=by
 obtain⟨D,k,D1,D2,s1,s2,dj,h1,h2⟩:=s.pull p;obtain⟨dx,fs,e1,e2⟩:=o H D1 h1;exact⟨b,i,dx,fs,f,rfl,e1,pE (e2▸hm),hf,h⟩
structure Bx where
 h:Int
 t:Int
 l:Int
 w:Int
 s:Int
 m:Int
abbrev Bx.ls (x:Bx):List Int:=[x.h,x.t,x.l,x.w,x.s,x.m]
abbrev Bx.ok (x:Bx):Prop:=(-1000000000<=x.h/\x.h<=1000000000)/\(-1000000000<=x.t/\x.t<=1000000000)/\(0<=x.l/\x.l<=1000000000)/\(x.w=1\/x.w= -1)/\(0<=x.s/\x.s<=1000000000)/\(x.m=0\/x.m=1)
abbrev aJ (R:Rt)(b:Addr)(x:Bx):aq:=bx λ_:Unit=>[boxes R b x.ls,pu x.ok]
def vo {b:Addr}{x:Bx}(s:Sep (aJ R b x::O) H):x.ok/\Sep (boxes R b x.ls::O) H:=by
 obtain⟨_,s⟩:=x8 s;have s:Sep (boxes R b x.ls::pu x.ok::O) H:=s;exact⟨(s.pull .k1).pure,(s.pull .k1).drop⟩
def ma {b:Addr}{x:Bx}(hx:x.ok)(s:Sep (boxes R b x.ls::O) H):Sep (aJ R b x::O) H:=pj () (Sep.push .k1 (Sep.yF hx s))
def iq {b:Addr}{x:Bx}:Ob R (aJ R b x) b 8 ["numbers"]:=by
 rintro H D ⟨_,D1,D2,_,_,_,⟨⟨dx,d⟩,E1,E2,_,_,_,⟨_,h⟩,_⟩,_⟩;exact⟨dx,_,h,rfl⟩
def Ax {x:Bx}(h:x.ok):∀ (j:Nat) i,x.ls[j]? =some i->eJ j (v0 i)=true:=by
 obtain⟨⟨h1,h2⟩,⟨h3,h4⟩,⟨h5,h6⟩,h7,⟨h8,h9⟩,h10⟩:=h;intro j i hi;rcases j with _|_|_|_|_|_|j
 .cases hi;simp[eJ,iw,h1,h2]
 .cases hi;simp[eJ,iw,h3,h4]
 .cases hi;simp[eJ,mM,h5,h6]
 .cases hi;rcases h7 with e|e<;>rw[e]<;>rfl
 .cases hi;simp[eJ,mM,h8,h9]
 .cases hi;rcases h10 with e|e<;>rw[e]<;>rfl
 .exact absurd hi (by simp[Bx.ls])
def xH (h:0<=i/\i<=1000000000):mM (v0 i)=true:=by simp[mM,h.1,h.2]
section
variable {b:Addr}{h t l w s m i:Int}
def kC {x:Bx}(ro:Ro K R)(hk:1<=k)(z:Sep O H)(p:ae (aJ R b x) O Δ)(q:∀ t H',Sep (tu t (x.ls.map v0)::O) H'->Q (ut t) H'):aa tab R k 13 [ut b] H Q E:=by
 obtain⟨hok,z2⟩:=vo (z.pull p);exact yP ro hk z2 (λt H' z3=>q t H' (Sep.push (.t p) (ma hok (z3.pull .k1))))
def wC {x:Bx}(ro:Ro K R)(hk:4<=k)(hx:x.ok)(z:Sep (pt b (wp (R.cad 8) dx [])::pt dx (.own b)::O) H)(q:∀ H',Sep (aJ R b x::O) H'->Q wf H'):
  aa tab R k 12 (ut b::x.ls.map v0) H Q E:=pI ro hk rfl (Ax hx) z (λH' z2=>q H' (ma hx z2))
def t5 (ro:Ro K R)(hk:4<=k)(hx:(Bx.mk h t l w s m).ok)(z:Sep (pt b (wp (R.cad 8) dx [])::pt dx (.own b)::O) H)(q:∀ H',Sep (aJ R b ⟨h,t,l,w,s,m⟩::O) H'->Q wf H'):
  aa tab R k 12 [ut b,v0 h,v0 t,v0 l,v0 w,v0 s,v0 m] H Q E:=wC (x:=⟨h,t,l,w,s,m⟩) ro hk hx z q
end
abbrev gt (cs:List Int)(i:Int):Int:=(cs[i.toNat]?).getD 0
def xC {cs:List Int}(h0:0<=i)(h1:i<cs.length):cs[i.toNat]? =some (gt cs i):=by
 unfold gt;rw[le nofun]
 rfl
def sZ {cs:List Int}(h0:0<=i)(h1:i<cs.length):jc (cs.map v0) i=some (v0 (gt cs i)):=gO h0 (by rw[im,xC h0 h1];rfl)
def za {cs:List Int}(hc:bH cs):0<=gt cs i/\gt cs i<=1000000000:=by
 unfold gt;cases e:cs[i.toNat]? with
 |none=>exact⟨by decide,by decide⟩
 |some x=>exact hc x (cr e)
abbrev uA (cs:List Int)(ws:List Str):Prop:=cs.length=ws.length/\1<=cs.length/\cs.length<=60/\bH cs
abbrev aC (R:Rt)(a:Addr)(cs:List Int)(ws:List Str):aq:=bx λ_:Unit=>[aB (R.cad 23) a (cs.map v0) (ws.map v4),pu (uA cs ws)]
def fz {cs:List Int}(s:Sep (aC R a cs ws::O) H):uA cs ws/\Sep (aB (R.cad 23) a (cs.map v0) (ws.map v4)::O) H:=by
 obtain⟨_,s⟩:=x8 s;have s:Sep (aB (R.cad 23) a (cs.map v0) (ws.map v4)::pu (uA cs ws)::O) H:=s;exact⟨(s.pull .k1).pure,(s.pull .k1).drop⟩
def fj {cs:List Int}(hx:uA cs ws)(s:Sep (aB (R.cad 23) a (cs.map v0) (ws.map v4)::O) H):Sep (aC R a cs ws::O) H:=pj () (Sep.push .k1 (Sep.yF hx s))
def kQ {cs:List Int}(s:Sep O H)(p:ae (aC R a cs ws) O Δ):uA cs ws:=(fz (s.pull p)).1
def cR {cs:List Int}:Ob R (aC R a cs ws) a 23 ["contents","permits"]:=by
 rintro H D ⟨_,D1,D2,_,_,_,⟨⟨dx,c,d⟩,E1,E2,_,_,_,⟨_,h⟩,_⟩,_⟩;exact⟨dx,_,h,rfl⟩
section
variable {a:Addr}{cs:List Int}{ws:List Str}{i v:Int}
def wZ (hk:1<=k)(z:Sep O H)(p:ae (aC R a cs ws) O Δ)(q:∀ l H',Sep (pt l (wl (cs.map v0))::O) H'->Q (ut l) H'):aa tab R k 50 [ut a] H Q E:=by
 obtain⟨hok,z2⟩:=fz (z.pull p);exact AK hk z2 (λl H' z3=>q l H' (Sep.push (.t p) (fj hok (z3.pull .k1))))
def rB (hk:1<=k)(z:Sep O H)(p:ae (aC R a cs ws) O Δ)(q:∀ l H',Sep (pt l (wl (ws.map v4))::O) H'->Q (ut l) H'):aa tab R k 51 [ut a] H Q E:=by
 obtain⟨hok,z2⟩:=fz (z.pull p);exact ua hk z2 (λl H' z3=>q l H' (Sep.push (.t p) (fj hok (z3.pull .k1))))
end
def rq {cs:List Int}(h1:1<=cs.length)(h60:cs.length<=60)(hc:bH cs):bad (cs.map v0)=none:=by
 refine lq (by rw[ce];exact⟨h1,h60⟩) λi y hy=>?_
 rw[im]at hy;obtain⟨z,hz,rfl⟩:=mo.mp hy;exact xH (hc z (cr hz))
def tU {cs:List Int}(s:Sep O H):Sep (tys (cs.map v0)::O) H:=Sep.Dd (λx hx=>by
 obtain⟨z,_,rfl⟩:=List.mem_map.mp hx;exact⟨"int",rfl⟩) s
def pL {p:Addr}{cs:List Int}(ro:Ro K R)(hk:4<=k)(h1:1<=cs.length)(h60:cs.length<=60)(hc:bH cs)(s:Sep (pt p (wp (R.cad 23) dx [])::pt dx (.own p)::O) H)(h:ae (pt a (wl (cs.map v0))) O Δ)
  (q:∀ H',Sep (aC R p cs (ss cs.length "open")::O) H'->Q wf H'):aa tab R k 48 [ut p,ut a] H Q E:=by
 have s2:=tU (cs:=cs) (s.pull (.j2 h));refine ki (a:=a) (dx:=dx) (O:=Δ) ro hk (s2.sub ?_) (λ_ H' z=>q H' ?_) (λat' hb=>absurd hb (by rw[rq h1 h60 hc];exact λz=>nomatch z))
 .ac_nf
 .refine Sep.push (.t h) ?_;have e:ss (cs.map v0).length (v4 "open")=(ss cs.length ("open":Str)).map v4:=by rw[ce,map_replicate]
  rw[e]at z;have z2:=fj (cs:=cs) ⟨by rw[List.length_replicate],h1,h60,hc⟩ z;exact z2.sub (by ac_nf)
def aS {T:Tab}{f:Nat}{vs vs':List V}(e:vs=vs')(h:aa T R k f vs' H Q E):aa T R k f vs H Q E:=e▸h
local macro_rules| `(tactic|walk_at "ag")=>`(tactic|first|refine aS (vs':=[_,_]) rfl ?_|refine aS (vs':=[_,_,_]) rfl ?_|refine aS (vs':=[_]) rfl ?_|refine aS (vs':=[_,_,_,_]) rfl ?_)
local macro_rules| `(tactic|walk_at "mt")=>`(tactic|first|((with_reducible refine' ai iq ?s ?p ?m ?f ?_);(case s=>with_reducible assumption);(case p=>symm);(case m=>exact rfl);(case f=>exact rfl))|((with_reducible refine' ai cR ?s ?p ?m ?f ?_);(case s=>with_reducible assumption);(case p=>symm);(case m=>exact rfl);(case f=>exact rfl)))
local macro_rules| `(tactic|walk_at "ws")=>`(tactic|(walk_at "w";repeat(first|(walk_at "st";walk_at "w")|(walk_at "mt";walk_at "w")|(walk_at "ag";(walk_at "hq");walk_at "w")|(walk_at "ag";(walk_at "gq");walk_at "w"))))
local macro_rules| `(tactic|walk_at "sc")=>`(tactic|first|(refine cD (by decide+kernel) ?_;walk_at "go")|(refine cb (by decide+kernel) ?_;walk_at "go"))
section
variable {b a:Addr}{h t l w s m i j by':Int}{cs:List Int}{ws:List Str}
end
section
variable {b a:Addr}{h t l w s m i j:Int}{cs:List Int}{ws:List Str}
end
abbrev b2i (c:Bool):Int:=match c with
 |true=>1
 |false=>0
def qD {c:Bool}(q:Q (v0 (b2i c)) H):o6 G .int [.bl c] H Q:=by
 unfold o6;refine .inl (.inr ⟨c,rfl,?_⟩);cases c<;>exact q
def Cu {p:Prop} [Decidable p]:b2i (decide p)=if p then 1 else 0:=by
 by_cases h:p
 .rw[decide_eq_true h,if_pos h];rfl
 .rw[decide_eq_false h,if_neg h];rfl
section
variable {cs:List Int}{f g:Nat->Int}{i v:Int}
end
abbrev dd (R:Rt)(d:Addr)(c:Nat):aq:=bx λdx:Addr=>[pt d (wp (R.cad c) dx []),pt dx (.own d)]
def ED {c:Nat}(s:Sep (pt d (wp (R.cad c) dx [])::pt dx (.own d)::O) H):Sep (dd R d c::O) H:=pj dx s
def DB {c:Nat}:Ob R (dd R d c) d c []:=by
 rintro H D ⟨dx,D1,D2,_,_,_,⟨_,h⟩,_⟩;exact⟨dx,_,h,rfl⟩
abbrev kP (d:Addr)(x:Bx):aq:=pt d (.dK (yj.zip (x.ls.map v0)))
section
variable {d:Addr}{h t l w s m i:Int}{P:Hp->Prop}
def Fo (z:Sep O H)(p:ae (kP d ⟨h,t,l,w,s,m⟩) O Δ)(q:Q (v0 h) H):nh K (ut d) (v4 "here") H Q:=lM (k:=.inr "here") (z.get p) rfl q
def ES (z:Sep O H)(p:ae (kP d ⟨h,t,l,w,s,m⟩) O Δ)(q:Q (v0 t) H):nh K (ut d) (v4 "there") H Q:=lM (k:=.inr "there") (z.get p) rfl q
def E8 (z:Sep O H)(p:ae (kP d ⟨h,t,l,w,s,m⟩) O Δ)(q:Q (v0 l) H):nh K (ut d) (v4 "left") H Q:=lM (k:=.inr "left") (z.get p) rfl q
def E4 (z:Sep O H)(p:ae (kP d ⟨h,t,l,w,s,m⟩) O Δ)(q:Q (v0 w) H):nh K (ut d) (v4 "way") H Q:=lM (k:=.inr "way") (z.get p) rfl q
def Fm (z:Sep O H)(p:ae (kP d ⟨h,t,l,w,s,m⟩) O Δ)(q:Q (v0 s) H):nh K (ut d) (v4 "sign") H Q:=lM (k:=.inr "sign") (z.get p) rfl q
def EI (z:Sep O H)(p:ae (kP d ⟨h,t,l,w,s,m⟩) O Δ)(q:Q (v0 m) H):nh K (ut d) (v4 "met") H Q:=lM (k:=.inr "met") (z.get p) rfl q
def vM (z:Sep O H)(r:bZ (pt d (.dK [])) (kP d ⟨h,t,l,w,s,m⟩) O Γ')(q:∀ H',Sep Γ' H'->Q (ut d) H'):pM ["here","there","left","way","sign","met"] d [v0 h,v0 t,v0 l,v0 w,v0 s,v0 m] H Q:=by
 obtain⟨Δ,p1,p2⟩:=r.iM;unfold pM;exact⟨z.get p1,q _ (z.put r rfl)⟩
end
local macro_rules| `(tactic|walk_at "sx")=>`(tactic|((with_reducible (first|refine' Fo ?s ?p ?_|refine' ES ?s ?p ?_|refine' E8 ?s ?p ?_|refine' E4 ?s ?p ?_|refine' Fm ?s ?p ?_|refine' EI ?s ?p ?_));(case s=>with_reducible assumption);(case p=>symm)))
local macro_rules| `(tactic|walk_at "sy")=>`(tactic|((with_reducible (first|refine' ds_h ?s ?p (λH hs=>?_)|refine' ds_t ?s ?p (λH hs=>?_)|refine' ds_l ?s ?p (λH hs=>?_)|refine' ds_w ?s ?p (λH hs=>?_)|refine' ds_s ?s ?p (λH hs=>?_)|refine' ds_m ?s ?p (λH hs=>?_)));(case s=>with_reducible assumption);(case p=>ac_rfl)))
local macro_rules| `(tactic|walk_at "wd")=>`(tactic|(walk_at "w";repeat(first|(walk_at "sx";walk_at "w")|(walk_at "sy";walk_at "w")|(walk_at "st";walk_at "w")|(refine qD ?_;walk_at "w"))))
inductive Wd where
 |copy|fill|seek|mtch|shift|turn
abbrev Wd.s:Wd->Str
 | .copy=>"copy"
 | .fill=>"fill"
 | .seek=>"seek"
 | .mtch=>"match"
 | .shift=>"shift"
 | .turn=>"turn"
section
variable {d p:Addr}{h t l w s m:Int}{cs:List Int}{ws:List Str}
end
def aY {xs:List α}(h0:0<=i)(h1:i<xs.length):∃ v,jc xs i=some v/\v ∈ xs:=by
 have hl:i.toNat<xs.length:=by omega
 refine⟨xs[i.toNat],?_,getElem_mem hl⟩;have:=L2.gN (le hl)
 rwa [Int.toNat_of_nonneg h0]at this
def d5 (h0:0<=r)(h1:r<xs.length)(h:∀ v ∈ xs,P v):∃ v,jc xs r=some v/\P v:=by
 obtain⟨v,hv,hm⟩:=aY h0 h1;exact⟨v,hv,h v hm⟩
abbrev inR (lo hi:Int)(v:V):Prop:=∃ i,v=v0 i/\lo<=i/\i<=hi
def inR.mk {lo hi:Int}(h0:lo<=i)(h1:i<=hi):inR lo hi (v0 i):=⟨i,rfl,h0,h1⟩
def Fs {a b:V}(ha:P a)(hb:P b):∀ v ∈ [a,b],P v:=λv hv=>by
 simp only[lv,not_mem_nil,or_false]at hv;rcases hv with rfl|rfl<;>assumption
def Cc {a b c:V}(ha:P a)(hb:P b)(hc:P c):∀ v ∈ [a,b,c],P v:=λv hv=>by
 simp only[lv,not_mem_nil,or_false]at hv;rcases hv with rfl|rfl|rfl<;>assumption
def Gg {a b c d:V}(ha:P a)(hb:P b)(hc:P c)(hd:P d):∀ v ∈ [a,b,c,d],P v:=λv hv=>by
 simp only[lv,not_mem_nil,or_false]at hv;rcases hv with rfl|rfl|rfl|rfl<;>assumption
def uC {M:Int}(hk:2<=k)(s:Sep (hand h m::O) H)(hm:m<=1099510000000)(hM0:1<=M)(hM1:M<=60)(q:∀ i H',-1000000000<=i->i<=1000000000->Sep (hand h (m+6)::O) H'->Q (v0 i) H'):aa tab R k 62 [ut h,v0 M] H Q E:=by
 delta gv;walk_at "gd";rename_i wy H1 w0 w1 hs1;refine aE (λe=>?_) (λe=>?_)
 .walk_at "gd";rename_i r H2 r0 r1 hs2;exact q _ _ nofun nofun (ag hs2 nofun)
 walk_at "gd";refine aE (λe2=>?_) (λe2=>?_)
 .walk_at "gd";rename_i l H2 hs2;obtain⟨v,hv,i,rfl,i0,i1⟩:=d5 (xs:=[v0 0,v0 (M-1)]) (P:=inR (-1000000000) 1000000000) (r:=wy-4) nofun (by simp;omega) (Fs (.mk nofun nofun) (.mk nofun nofun));refine bE (by grind) hv ?_;exact q _ _ i0 i1 (ag (hs2.sub (by ac_nf)) nofun)
 walk_at "gd";refine bz (λe3=>?_) (λe3=>?_)
 .walk_at "gd";rename_i a H2 a0 a1 hs2 b H3 b0 b1 hs3 l H4 hs4 c H5 c0 c1 hs5;obtain⟨v,hv,i,rfl,i0,i1⟩:=d5 (xs:=[v0 (-1-a),v0 (M+b)]) (P:=inR (-1000000000) 1000000000) (r:=c) c0 (by simp;omega) (Fs (.mk nofun nofun) (.mk nofun nofun));refine bE (by grind) hv ?_;exact q _ _ i0 i1 (ag (hs5.sub (by ac_nf)) nofun)
 walk_at "gd";rename_i a H2 a0 a1 hs2 b H3 b0 b1 hs3 c H4 c0 c1 hs4 l H5 hs5 d H6 d0 d1 hs6;rw[j3]at hs6;obtain⟨v,hv,i,rfl,i0,i1⟩:=d5 (xs:=[v0 (1000000000-a),v0 (b-1000000000),v0 c]) (P:=inR (-1000000000) 1000000000) (r:=d) d0 (by simp;omega) (Cc (.mk nofun nofun) (.mk nofun nofun) (.mk nofun nofun));refine bE (by grind) hv ?_;exact q _ _ i0 i1 (ag (hs6.sub (by ac_nf)) nofun)
abbrev bI:Nat->je->je
 |0,b=>b
 |n+1,.cons _ r=>bI n r
 |_+1,.nil=>.nil
def lp {p:Addr}{lf wy:Int}{cs:List Int}{v5 v6 v7:Option V}(hk:3<=k)(s:Sep (hand h m::pt p (wl (cs.map v0))::O) H)(hm:m<=1099509500000)(h1:1<=cs.length)(h60:cs.length<=60)(hc:bH cs)(l0:0<=lf)(l1:lf<=1000000000)
  (q:∀ d x H',Bx.ok x->Sep (kP d x::hand h (m+20)::pt p (wl (cs.map v0))::O) H'->Q (ut d) H'):
  wB (bI 4 eP.body) ⟨tab,R,aa tab R (k-1),.calm⟩ { nx:=λ_ H'=>Q wf H',rt:=Q } (λ_=>E) [some (ut h),some (ut p),some (v0 cs.length),some (v0 wy),some (v0 lf),v5,v6,v7] H:=by
 walk_at "gd";rename_i r H1 r0 r1 hs1;refine bE (by grind) (sZ r0 r1) ?_;walk_at "gd";refine jy (m:=m+1) nofun hs1 nofun (λct H2 c0 c1 hs2=>?_);walk_at "gd";rename_i l2 H3 hs3 r3 H4 r30 r31 hs4;obtain⟨v,hv,sg,rfl,sg0,sg1⟩:=d5 (xs:=[v0 (gt cs r),v0 ct]) (P:=inR 0 1000000000) (r:=r3 / 3) nofun (by simp;omega) (Fs (.mk (za hc).1 (za hc).2) (.mk c0 c1));refine bE (by grind) hv ?_;walk_at "gd";refine uC (m:=m+5) (O:=pt p (wl (cs.map v0))::O) nofun (ag (hs4.sub (by ac_nf)) nofun) nofun nofun nofun (λhh H5 hh0 hh1 hs5=>?_);walk_at "gd";refine uC (m:=m+11) nofun (ag hs5 nofun) nofun nofun nofun (λtt H6 tt0 tt1 hs6=>?_);walk_at "gd";rename_i w2 H7 w20 w21 hs7;intro d hd;have hs8:=hs7.new (o:=.dK []) hd;generalize upd H7 d (.dK [])=H8 at hs8⊢;walk_at "gd";rename_i mt H9 mt0 mt1 hs9;refine vM hs9 (by ac_rfl) (λH10 hs10=>?_);refine q d ⟨hh,tt,lf,1-2*w2,sg,mt⟩ H10 ?_ ((ag hs10 nofun).pull .k1);refine⟨⟨hh0,hh1⟩,⟨tt0,tt1⟩,⟨l0,l1⟩,?_,⟨sg0,sg1⟩,?_⟩<;>dsimp only<;>omega
def Aj {p:Addr}{cs:List Int}(hk:3<=k)(s:Sep (hand h m::pt p (wl (cs.map v0))::O) H)(hm:m<=1099509000000)(h1:1<=cs.length)(h60:cs.length<=60)(hc:bH cs)
  (q:∀ d x H',Bx.ok x->Sep (kP d x::hand h (m+30)::pt p (wl (cs.map v0))::O) H'->Q (ut d) H'):aa tab R k 63 [ut h,ut p] H Q E:=by
 delta eP;right;rw[ce];walk_at "gd";rename_i wy H1 w0 w1 hs1 a H2 a0 a1 hs2 b H3 b0 b1 hs3 c H4 c0 c1 hs4 l1 H5 hs5;obtain⟨v,hv,lf,rfl,lf0,lf1⟩:=d5 (xs:=[v0 a,v0 b,v0 (cs.length+c)]) (P:=inR 0 1000000000) (r:=wy % 3) nofun (by simp;omega) (Cc (.mk nofun nofun) (.mk nofun nofun) (.mk nofun nofun));refine bE (by grind) hv ?_;have hs6:Sep (hand h (m+9)::pt p (wl (cs.map v0))::O) H5:=ag (hs5.sub (by ac_nf)) nofun;clear hs1 hs2 hs3 hs4 hs5 hv;left;refine eY rfl rfl ?_;left;refine bz (λe=>?_) (λe=>?_)
 .right;refine ph nofun hs6 nofun nofun nofun (λr H7 r0 r1 hs7=>?_);rw[j3];exact lp (m:=m+10) hk (ag hs7 nofun) nofun h1 h60 hc nofun nofun (λd x H' hx hs=>q d x H' hx (by rw[show m+30=m+10+20 by omega];exact hs))
 .exact lp (m:=m+10) hk (ag hs6 nofun) nofun h1 h60 hc lf0 lf1 (λd x H' hx hs=>q d x H' hx (by rw[show m+30=m+10+20 by omega];exact hs))
def vD {cs:List Int}{j:Int}{w:Str}(ro:Ro K R)(hk:3<=k)(z:Sep O H)(r:bZ (aC R a cs ws) (aC R a cs (cV w ws i.toNat (j-i).toNat)) O Γ')(h0:0<=i)(h1:i<=j)(h2:j<=ws.length)(hw:eA w=true)(q:∀ H',Sep Γ' H'->Q wf H'):aa tab R k 52 [ut a,v0 i,v0 j,v4 w] H Q E:=by
 obtain⟨Δ,p1,p2⟩:=r.iM;obtain⟨ok,z2⟩:=fz (z.pull p1);have hwi:ao ws.length (v0 i) (v0 j)=true:=by simp[ao,h0,h1,h2]
 refine pR (t1:="int") (t2:="int") (t3:="str") ro hk z2 (by rw[ce];exact ok.1) (by have:=ok.1;have:=ok.2.2.1;omega) rfl rfl rfl (λa' b' w' e1 e2 e3 _ _ H' z3=>?_) (λhb=>absurd hb ?_)
 .cases e1;cases e2;cases e3;refine q H' (Sep.push p2 (fj ⟨?_,ok.2⟩ z3));rw[fH];exact ok.1
 .rw[hwi];show ¬ (true&&eA w)=false;rw[hw]
  decide
abbrev Wd.cl:Wd->Nat
 | .copy=>17
 | .fill=>18
 | .seek=>19
 | .mtch=>20
 | .shift=>21
 | .turn=>22
def A6 (wd:Wd)(hk:1<=k)(z:Sep O H)(q:∀ d H',Sep (dd R d wd.cl::O) H'->Q (ut d) H'):aa tab R k 66 [v4 wd.s] H Q E:=by
 delta gu;cases wd
 all_goals
  right
  repeat walk_at "sc"
  exact DC z (λx dx H1 z1=>q x H1 (ED z1))
inductive Bn where
 |h
 |t
 |l
 |w
 |s
 |m
abbrev Bn.j:Bn->Nat
 | .h=>0
 | .t=>1
 | .l=>2
 | .w=>3
 | .s=>4
 | .m=>5
abbrev Bn.nm:Bn->Str
 | .h=>"here"
 | .t=>"there"
 | .l=>"left"
 | .w=>"way"
 | .s=>"sign"
 | .m=>"met"
def Bn.at (b:Bn):rX[b.j]? =some b.nm:=by cases b<;>rfl
abbrev Bx.p (x:Bx)(i:Int):Bn->Bx
 | .h=>⟨i,x.t,x.l,x.w,x.s,x.m⟩
 | .t=>⟨x.h,i,x.l,x.w,x.s,x.m⟩
 | .l=>⟨x.h,x.t,i,x.w,x.s,x.m⟩
 | .w=>⟨x.h,x.t,x.l,i,x.s,x.m⟩
 | .s=>⟨x.h,x.t,x.l,x.w,i,x.m⟩
 | .m=>⟨x.h,x.t,x.l,x.w,x.s,i⟩
def zp (h0:0<=r)(h1:r<6):∃ b:Bn,jc [v4 "here",v4 "there",v4 "left",v4 "way",v4 "sign",v4 "met"] r=some (v4 b.nm):=by
 have:r=0\/r=1\/r=2\/r=3\/r=4\/r=5:=by omega
 rcases this with rfl|rfl|rfl|rfl|rfl|rfl
 .exact⟨.h,rfl⟩
 .exact⟨.t,rfl⟩
 .exact⟨.l,rfl⟩
 .exact⟨.w,rfl⟩
 .exact⟨.s,rfl⟩
 .exact⟨.m,rfl⟩
inductive Sp where
 |set (b:Bn) (i:Int)
 |add (b:Bn) (i:Int)
 |take (b c:Bn)
 |read (b:Bn)
 |write (b:Bn)
abbrev Sp.w:Sp->Str
 | .set _ _=>"set"
 | .add _ _=>"add"
 | .take _ _=>"take"
 | .read _=>"read"
 | .write _=>"write"
abbrev Sp.b:Sp->Bn
 | .set b _=>b
 | .add b _=>b
 | .take b _=>b
 | .read b=>b
 | .write b=>b
abbrev Sp.tl:Sp->List V
 | .set b i=>[v4 "set",v4 b.nm,v0 i]
 | .add b i=>[v4 "add",v4 b.nm,v0 i]
 | .take b c=>[v4 "take",v4 b.nm,v4 c.nm]
 | .read b=>[v4 "read",v4 b.nm]
 | .write b=>[v4 "write",v4 b.nm]
abbrev Sp.cl:Sp->Nat
 | .set _ _=>10
 | .add _ _=>11
 | .take _ _=>12
 | .read _=>13
 | .write _=>14
abbrev Sp.fs:Sp->List (Str×V)
 | .set b i=>[("box",v4 b.nm),("number",v0 i)]
 | .add b i=>[("box",v4 b.nm),("number",v0 i)]
 | .take b c=>[("box",v4 b.nm),("other",v4 c.nm)]
 | .read b=>[("box",v4 b.nm)]
 | .write b=>[("box",v4 b.nm)]
abbrev Sp.ok:Sp->Prop
 | .set _ i=>-1000000000<=i/\i<=1000000000
 | .add _ i=>-1000000000<=i/\i<=1000000000
 |_=>True
abbrev sd (R:Rt)(d:Addr)(sp:Sp):aq:=bx λdx:Addr=>[pt d (wp (R.cad sp.cl) dx sp.fs),pt dx (.own d)]
def t9 {sp:Sp}(s:Sep (pt d (wp (R.cad sp.cl) dx sp.fs)::pt dx (.own d)::O) H):Sep (sd R d sp::O) H:=pj dx s
def CH {sp:Sp}:Ob R (sd R d sp) d sp.cl (sp.fs.map (·.1)):=by
 rintro H D ⟨dx,D1,D2,_,_,_,⟨_,h⟩,_⟩;exact⟨dx,_,h,rfl⟩
def aU {w:Str}{n:Bn}(ro:Ro K R)(hk:2<=k)(q:Q wf H):aa tab R k 15 [v4 w,v4 n.nm] H Q E:=by
 delta gy;right;refine yG (t:="str") ro nofun rfl ?_;rw[Ay n.at];right;exact q
def dE {w:Str}(ro:Ro K R)(hk:3<=k)(h0: -1000000000<=i)(h1:i<=1000000000)(q:Q wf H):aa tab R k 16 [v4 w,v0 i] H Q E:=by
 delta dJ;right;refine du (t:="int") ro nofun rfl ?_;rw[show iw (v0 i)=true by simp[iw,h0,h1]];right;exact q
def Cj {n:Bn}(ro:Ro K R)(hk:4<=k)(h0: -1000000000<=i)(h1:i<=1000000000)(z:Sep (pt x (wp (R.cad 10) dx [])::pt dx (.own x)::O) H)(q:∀ H',Sep (sd R x (.set n i)::O) H'->Q wf H'):aa tab R k 17 [ut x,v4 n.nm,v0 i] H Q E:=by
 delta dH;right;refine aU ro nofun ?_;right;refine dE ro nofun h0 h1 ?_;right;exact q _ (t9 (by assumption))
def Cv {n:Bn}(ro:Ro K R)(hk:4<=k)(h0: -1000000000<=i)(h1:i<=1000000000)(z:Sep (pt x (wp (R.cad 11) dx [])::pt dx (.own x)::O) H)(q:∀ H',Sep (sd R x (.add n i)::O) H'->Q wf H'):aa tab R k 19 [ut x,v4 n.nm,v0 i] H Q E:=by
 delta dq;right;refine aU ro nofun ?_;right;refine dE ro nofun h0 h1 ?_;right;exact q _ (t9 (by assumption))
def DJ {n m:Bn}(ro:Ro K R)(hk:4<=k)(z:Sep (pt x (wp (R.cad 12) dx [])::pt dx (.own x)::O) H)(q:∀ H',Sep (sd R x (.take n m)::O) H'->Q wf H'):aa tab R k 21 [ut x,v4 n.nm,v4 m.nm] H Q E:=by
 delta c7;right;refine aU ro nofun ?_;right;refine aU ro nofun ?_;right;exact q _ (t9 (by assumption))
def C8 {n:Bn}(ro:Ro K R)(hk:4<=k)(z:Sep (pt x (wp (R.cad 13) dx [])::pt dx (.own x)::O) H)(q:∀ H',Sep (sd R x (.read n)::O) H'->Q wf H'):aa tab R k 23 [ut x,v4 n.nm] H Q E:=by
 delta c6;right;refine aU ro nofun ?_;right;exact q _ (t9 (by assumption))
def CW {n:Bn}(ro:Ro K R)(hk:4<=k)(z:Sep (pt x (wp (R.cad 14) dx [])::pt dx (.own x)::O) H)(q:∀ H',Sep (sd R x (.write n)::O) H'->Q wf H'):aa tab R k 25 [ut x,v4 n.nm] H Q E:=by
 delta cz;right;refine aU ro nofun ?_;right;exact q _ (t9 (by assumption))
abbrev gW:V->Bool
 | v0 i=>decide (0<=i)&&decide (i<=24)
 |_=>false
abbrev Cf:V->Bool
 | wf=>true
 | v0 i=>i ==0||i ==1
 |_=>false
def rV (ro:Ro K R)(hk:2<=k)(ht:tyName v H=some t)(q:Q (.bl (gW v)) H):aa tab R k 35 [v] H Q E:=by
 delta jw;right;refine az nofun ht ?_;cases aX ht
 case int i=>
  right;refine aE (λh0=>?_) (λh0=>?_)
  .left;simp only[ro.g_MOST_HOPPED];right;rw[show gW (v0 i)=decide (i<=24) by simp[gW,h0]]at q;exact q
  .right;rw[show gW (v0 i)=false by simp[gW,h0]]at q;exact q
 all_goals
  right;exact q
def xZ (hk:2<=k)(ht:tyName v H=some t)(q:Q (.bl (Cf v)) H):aa tab R k 36 [v] H Q E:=by
 delta qc;right;refine Bz ?_;cases aX ht
 case int i=>
  left;refine cb rfl ?_;right;refine az (t:="int") nofun rfl ?_;right;refine bz (λh0=>?_) (λh0=>?_)
  .right;rw[show Cf (v0 i)=true by simp[Cf,h0]]at q;exact q
  .right;rw[show Cf (v0 i)=(i ==1) by simp[Cf,h0]]at q;exact q
 case non=>
  left;refine cD rfl ?_;exact q
 all_goals
  left;refine cb rfl ?_;right;refine az nofun ht ?_;right;exact q
abbrev oV:Option Int->V
 |none=>wf
 |some i=>v0 i
abbrev EY:Option Int->Prop
 |none=>True
 |some i=>i=0\/i=1
abbrev Ei (R:Rt)(d:Addr)(n:Int)(o:Option Int):aq:=bx λdx:Addr=>[pt d (wp (R.cad 16) dx [("many",v0 n),("on",oV o)]),pt dx (.own d)]
def E3 (s:Sep (pt d (wp (R.cad 16) dx [("many",v0 n),("on",oV o)])::pt dx (.own d)::O) H):Sep (Ei R d n o::O) H:=pj dx s
def DR:Ob R (Ei R d n o) d 16 ["many","on"]:=by
 rintro H D ⟨dx,D1,D2,_,_,_,⟨_,h⟩,_⟩;exact⟨dx,_,h,rfl⟩
def zk (ro:Ro K R)(hk:4<=k)(h0:0<=n)(h1:n<=24)(ho:EY o)(z:Sep (pt x (wp (R.cad 16) dx [])::pt dx (.own x)::O) H)(q:∀ H',Sep (Ei R x n o::O) H'->Q wf H'):aa tab R k 37 [ut x,v0 n,oV o] H Q E:=by
 delta di;right;refine rV (t:="int") ro nofun rfl ?_;rw[show gW (v0 n)=true by simp[gW,h0,h1]];right;obtain⟨t,ht⟩:∃ t,tyName (oV o) H=some t:=by cases o<;>exact⟨_,rfl⟩
 refine xZ nofun ht ?_;rw[show Cf (oV o)=true by cases o with|none=>rfl|some i=>rcases ho with rfl|rfl<;>rfl];right;exact q _ (E3 (by assumption))
inductive Rw where
 |lg (w:Wd)
 |sp (s:Sp)
 |hop (n:Int) (o:Option Int)
abbrev Rw.tl:Rw->List V
 | .lg w=>[v4 w.s]
 | .sp s=>s.tl
 | .hop n o=>[v4 "hop",v0 n,oV o]
abbrev Rw.ok:Rw->Prop
 | .lg _=>True
 | .sp s=>s.ok
 | .hop n o=>(0<=n/\n<=24)/\EY o
abbrev Rw.cl:Rw->Nat
 | .lg w=>w.cl
 | .sp s=>s.cl
 | .hop _ _=>16
abbrev ng (R:Rt)(d:Addr):Rw->aq
 | .lg w=>dd R d w.cl
 | .sp s=>sd R d s
 | .hop n o=>Ei R d n o
abbrev Rw.fs:Rw->List Str
 | .lg _=>[]
 | .sp s=>s.fs.map (·.1)
 | .hop _ _=>["many","on"]
def CQ (r:Rw):Ob R (ng R d r) d r.cl r.fs:=by
 cases r with
 |lg w=>exact DB
 |sp s=>exact CH
 |hop n o=>exact DR
def mj {r:Rw}(z:Sep O H)(p:ae (ng R d r) O Δ):∃ dx fs,H d=some (wp (R.cad r.cl) dx fs):=by
 obtain⟨D,k,D1,D2,s1,s2,dj,h1,h2⟩:=z.pull p;obtain⟨dx,fs,e,_⟩:=CQ r H D1 h1;exact⟨dx,fs,e⟩
inductive Cg where
 |on (r:Int) (x:Bx) (cs:List Int)
 |no (d:Str) (c:Int)
 |nf (b:Bn) (i:Int)
def rG {cs:List Int}(ro:Ro K R)(hk:5<=k)(z:Sep O H)(p:ae (aC R a cs ws) O Δ)(q:∀ c H',Sep (aC R c cs ws::O) H'->Q (ut c) H'):aa tab R k 56 [ut a] H Q E:=by
 delta dv;have ok:=kQ z p;right;rename_i l H1 z1;intro c dx g1 g2 g3;refine pL (cs:=[0]) ro nofun (by decide) (by decide) (λi hi=>by rw[mem_singleton.mp hi];decide) (d4 z1 g1 g2 g3) .e (λH2 z2=>⟨rfl,?_⟩);obtain⟨_,z3⟩:=fz z2;obtain⟨dx1,c1,d1,z4⟩:=a6 z3;obtain⟨_,z5⟩:=fz (z4.pull (.j2 (.j2 (.t p))));obtain⟨dx2,c2,d2,z6⟩:=a6 z5;clear z1 z2 z3 z4 z5;right;rename_i l3 H3 z7 H4 z8 l5 H5 z9 H6 z10;refine q c H6 ?_;have z11:Sep (pt c (wp (R.cad 23) dx1 [("contents",ut l3),("permits",ut l5)])::pt dx1 (.own c)::pt l3 (wl (cs.map v0))::pt l5 (wl (ws.map v4))::pt a (wp (R.cad 23) dx2 [("contents",ut c2),("permits",ut d2)])::pt dx2 (.own a)::pt c2 (wl (cs.map v0))::pt d2 (wl (ws.map v4))::Δ) H6:=z10.sub (by ac_nf);have z12:=fj ok (bC z11);have z13:Sep (pt a (wp (R.cad 23) dx2 [("contents",ut c2),("permits",ut d2)])::pt dx2 (.own a)::pt c2 (wl (cs.map v0))::pt d2 (wl (ws.map v4))::aC R c cs ws::Δ) H6:=z12.sub (by ac_nf);exact Sep.push (.t p) (fj ok (bC z13))
def rj {b:Addr}{x:Bx}(ro:Ro K R)(hk:5<=k)(z:Sep O H)(p:ae (aJ R b x) O Δ)(q:∀ c H',Sep (aJ R c x::O) H'->Q (ut c) H'):aa tab R k 14 [ut b] H Q E:=by
 obtain⟨o,z2⟩:=vo (z.pull p);refine rQ ro hk z2 (λc H' z3=>q c H' ?_);have z4:=ma o z3;have z5:=ma o (z4.pull .k1);exact Sep.push (.t p) z5
abbrev eE (R:Rt)(m l s b:Addr)(at_:Int)(ds:List V):aq:=bx λdx:Addr=>[pt m (wp (R.cad 15) dx [("deeds",ut l),("store",ut s),("boxes",ut b),("at",v0 at_)]),pt dx (.own m),pt l (wl ds)]
def mZ {m s b:Addr}(z:Sep (eE R m l s b at_ ds::O) H):∃ dx,Sep (pt m (wp (R.cad 15) dx [("deeds",ut l),("store",ut s),("boxes",ut b),("at",v0 at_)])::pt dx (.own m)::pt l (wl ds)::O) H:=x8 z
def Ez {m s b:Addr}(z:Sep (pt m (wp (R.cad 15) dx [("deeds",ut l),("store",ut s),("boxes",ut b),("at",v0 at_)])::pt dx (.own m)::pt l (wl ds)::O) H):Sep (eE R m l s b at_ ds::O) H:=pj dx z
def d7 {m s b:Addr}:Ob R (eE R m l s b at_ ds) m 15 ["deeds","store","boxes","at"]:=by
 rintro H D ⟨dx,D1,D2,_,_,_,⟨_,h⟩,_⟩;exact⟨dx,_,h,rfl⟩
abbrev ug (R:Rt)(O:List aq)(ds:List V):Prop:=∀ v ∈ ds,∃ a r Δ,v=ut a/\ae (ng R a r) O Δ
def gK (r:Rw):tab.oc.contains r.cl=true/\tab.sub.lookup (r.cl,9)=some true:=by
 cases r with
 |lg w=>cases w<;>exact⟨rfl,rfl⟩
 |sp s=>cases s<;>exact⟨rfl,rfl⟩
 |hop n o=>exact⟨rfl,rfl⟩
def fD (ro:Ro K R)(hk:1<=k)(h0:1<=ds.length)(h1:ds.length<=24)(z:Sep O H)(p:ae (pt l (wl ds)) O Δ)(hd:ug R O ds)(q:∀ H',Sep O H'->Q wf H'):aa tab R k 27 [ut l] H Q E:=by
 delta cP;left;refine aT (t:="list") (j4 (z.get p)) rfl ?_;right;refine fA (z.get p) ?_;right;refine aE (λh=>?_) (λh=>absurd nofun h);left;simp only[ro.g_MOST_ROWS];right;refine aE (λh=>?_) (λh=>absurd nofun h);right;refine BF (z.get p) ?_;refine jS (xs:=ds) (λj U H=>∃ u v,U=[some (ut l),u,v]/\Sep O H) ?_ ?_ ?_ ?_
 .exact⟨none,none,rfl,z⟩
 .rintro j U H ⟨u,v,rfl,hs⟩;exact hs.get p
 .rintro j x T U H hx ⟨u,v,rfl,hs⟩ hT;obtain⟨a,r,Δ',rfl,hp⟩:=hd x (cr hx);have hs4:=hs.iP (xs:=[v0 j,ut a]) hT;obtain⟨dx,fs,e⟩:=mj hs4 (.t hp);left;refine⟨T,_,rfl,.inl (ba.of hs4.atT),rfl,?_⟩;generalize upd H T _=H4 at hs4 e⊢;right;refine pN e (gK r).1 (b:=true) (gK r).2 ?_;right;exact⟨_,_,rfl,hs4.drop⟩
 .rintro U H ⟨u,v,rfl,hs⟩;exact q _ hs
def ja (hk:2<=k)(h0:0<=at_)(h1:at_<=n)(q:Q wf H):aa tab R k 28 [v0 at_,v0 n] H Q E:=by
 delta cu;right;refine az (t:="int") nofun rfl ?_;right;refine aE (λh=>?_) (λh=>absurd h0 h);right;refine aE (λh=>?_) (λh=>absurd h1 h);right;exact q
def jN {m s b:Addr}{x:Bx}{cs:List Int}(ro:Ro K R)(hk:6<=k)(n0:1<=ds.length)(n1:ds.length<=24)(h0:0<=at_)(h1:at_<=ds.length){Δl Δs Δb:List aq}(pl:ae (pt l (wl ds)) O Δl)(ps:ae (aC R s cs ws) O Δs)(pb:ae (aJ R b x) O Δb)(hd:ug R O ds)
  (z:Sep (pt m (wp (R.cad 15) dx [])::pt dx (.own m)::O) H) (q:∀ l2 s2 b2 H',Sep (eE R m l2 s2 b2 at_ ds::aC R s2 cs ws::aJ R b2 x::O) H'->Q wf H'):aa tab R k 29 [ut m,ut l,ut s,ut b,v0 at_] H Q E:=by
 delta aH;right;refine fD ro nofun n0 n1 z (.j2 pl) (λv hv=>by
  obtain⟨a,r,Δ',e,hp⟩:=hd v hv;exact⟨a,r,_,e,.t (.t hp)⟩) (λH1 z1=>?_)
 right;refine fA (z1.get (.j2 pl)) ?_;right;refine ja nofun h0 h1 ?_;right;refine gM z1 (z1.get (.j2 pl)) (λl2 H2 z2=>?_);right;rename_i H3 z3;refine ai cR z3 (.j2 (.t ps)) rfl rfl ?_;left;refine rG ro nofun z3 (.j2 (.t ps)) (λs2 H4 z4=>?_);right;rename_i H5 z5;refine ai iq z5 (.j2 (.j2 pb)) rfl rfl ?_;left;refine rj ro nofun z5 (.j2 (.j2 pb)) (λb2 H6 z6=>?_);right;rename_i H7 z7 H8 z8;refine q l2 s2 b2 H8 (Ez (dx:=dx) ?_);exact z8.sub (by ac_nf)
abbrev Cg.cs (cs:List Int):Cg->List Int
 | .on _ _ cs'=>cs'
 |_=>cs
section
variable {m l s b:Addr}{at_:Int}{ds:List V}{rs:List Rw}{x:Bx}{cs:List Int}{ws:List Str}
def fg (ro:Ro K R)(hk:2<=k)(z:Sep (eE R m l s b at_ ds::aC R s cs ws::aJ R b x::O) H)
  (q:∀ t t1 l1 H',Sep (pt t (wn [v0 at_,ut t1,ut l1])::pt l1 (wl (cs.map v0))::tu t1 (x.ls.map v0)::eE R m l s b at_ ds::aC R s cs ws::aJ R b x::O) H'->Q (ut t) H'):aa tab R k 30 [ut m] H Q E:=by
 delta bD;obtain⟨dx,z1⟩:=mZ z;right;refine ai iq z .k2 rfl rfl ?_;left;refine kC ro nofun z .k2 (λt1 H1 z2=>?_);obtain⟨dx,z3⟩:=mZ (z2.pull .k1);right;refine ai cR z2 .k2 rfl rfl ?_;left;refine wZ nofun z2 .k2 (λl1 H2 z4=>?_);right;rename_i t H3 z5;exact q t t1 l1 H3 z5
def jx (hk:2<=k)(z:Sep (eE R m l s b at_ ds::aC R s cs ws::O) H)
  (q:∀ l1 H',Sep (pt l1 (wl (ws.map v4))::eE R m l s b at_ ds::aC R s cs ws::O) H'->Q (ut l1) H'):aa tab R k 31 [ut m] H Q E:=by
 delta bc;obtain⟨dx,z1⟩:=mZ z;right;refine ai cR z .k1 rfl rfl ?_;left;exact rB nofun z .k1 q
end
def Ck (h0:0<=r)(h1:r<6):∃ wd:Wd,jc [v4 "copy",v4 "fill",v4 "seek",v4 "match",v4 "shift",v4 "turn"] r=some (v4 wd.s):=by
 have:r=0\/r=1\/r=2\/r=3\/r=4\/r=5:=by omega
 rcases this with rfl|rfl|rfl|rfl|rfl|rfl
 .exact⟨.copy,rfl⟩
 .exact⟨.fill,rfl⟩
 .exact⟨.seek,rfl⟩
 .exact⟨.mtch,rfl⟩
 .exact⟨.shift,rfl⟩
 .exact⟨.turn,rfl⟩
def AJ (h0:0<=r)(h1:r<3):∃ o:Option Int,jc [wf,v0 0,v0 1] r=some (oV o)/\EY o:=by
 rcases(by omega:r=0\/r=1\/r=2) with rfl|rfl|rfl
 .exact⟨none,rfl,True.intro⟩
 .exact⟨some 0,rfl,.inl rfl⟩
 .exact⟨some 1,rfl,.inr rfl⟩
abbrev nj (v:V):Prop:=∃ b:Bn,v=v4 b.nm
def xy {sz:Int}(hk:2<=k)(s:Sep (hand h m::O) H)(hm:m<=1099510000000)(h0:0<=sz)(h1:sz<=60)(q:∀ t r H',Rw.ok r->Sep (tu t r.tl::hand h (m+10)::O) H'->Q (ut t) H'):aa tab R k 64 [ut h,v0 sz] H Q E:=by
 delta gz;walk_at "gd";rename_i wy H1 wy0 wy1 hs1 p1 H2 hs2 r2 H3 r20 r21 hs3;obtain⟨b,e2⟩:=zp r20 r21;refine bE (by grind) e2 ?_;clear s hs1 hs2;right;refine aE (λg0=>?_) (λg0=>?_)
 .right;rename_i l4 H4 hs4;obtain⟨wd,e3⟩:=Ck wy0 g0;refine bE (by grind) e3 ?_;right;rename_i t H5 hs5;have z6:Sep (tu t (Rw.tl (.lg wd))::_) _:=hs5.toT;exact q t (.lg wd) _ True.intro ((ag (n:=m+10) (z6.pull (A:=hand h _) (by symm)) nofun).sub (by ac_nf))
 right;refine aE (λg1=>?_) (λg1=>?_)
 .walk_at "gd";rename_i l4 H4 hs4 r5 H5 r50 r51 hs5;obtain⟨v,e3,b3,rfl⟩:=d5 (P:=nj) (xs:=[v4 "here",v4 "there",v4 "left",v4 b.nm]) (r:=r5) r50 (by simpa using r51) (Gg ⟨.h,rfl⟩ ⟨.t,rfl⟩ ⟨.l,rfl⟩ ⟨b,rfl⟩);refine bE (by grind) e3 ?_;walk_at "gd";rename_i r6 H6 r60 r61 hs6 r7 H7 r70 r71 hs7 r8 H8 r80 r81 hs8 r9 H9 r90 r91 hs9 l10 H10 hs10;obtain⟨v,e4,i,rfl,i0,i1⟩:=d5 (xs:=[v0 r7,v0 (r8-2),v0 (10 ^ Int.toNat 9-r9)]) (P:=inR (-1000000000) 1000000000) (r:=r6 / 3) nofun (by simp;omega) (Cc (.mk nofun nofun) (.mk nofun nofun) (.mk (by rw[j3];omega) (by rw[j3];omega)));refine bE (by grind) e4 ?_;right;rename_i t H11 hs11;have z6:Sep (tu t (Rw.tl (.sp (.set b3 i)))::_) _:=hs11.toT;exact q t (.sp (.set b3 i)) _ ⟨i0,i1⟩ ((ag (n:=m+10) (z6.pull (A:=hand h _) (by symm)) nofun).sub (by ac_nf))
 right;refine bz (λg2=>?_) (λg2=>?_)
 .walk_at "gd";rename_i r6 H6 r60 r61 hs6 r7 H7 r70 r71 hs7 r8 H8 r80 r81 hs8 l10 H10 hs10;obtain⟨v,e4,i,rfl,i0,i1⟩:=d5 (xs:=[v0 (r7-3),v0 r8,v0 (-(10 ^ Int.toNat 9))]) (P:=inR (-1000000000) 1000000000) (r:=r6 / 3) nofun (by simp;omega) (Cc (.mk nofun nofun) (.mk nofun nofun) (.mk (by rw[j3];omega) (by rw[j3];omega)));refine bE (by grind) e4 ?_;right;rename_i t H11 hs11;have z6:Sep (tu t (Rw.tl (.sp (.add b i)))::_) _:=hs11.toT;exact q t (.sp (.add b i)) _ ⟨i0,i1⟩ ((ag (n:=m+10) (z6.pull (A:=hand h _) (by symm)) nofun).sub (by ac_nf))
 right;refine bz (λg3=>?_) (λg3=>?_)
 .walk_at "gd";rename_i r6 H6 r60 r61 hs6;obtain⟨c,e3⟩:=zp r60 r61;refine bE (by grind) e3 ?_;right;rename_i t H11 hs11;have z6:Sep (tu t (Rw.tl (.sp (.take b c)))::_) _:=hs11.toT;exact q t (.sp (.take b c)) _ True.intro ((ag (n:=m+10) (z6.pull (A:=hand h _) (by symm)) nofun).sub (by ac_nf))
 right;refine aE (λg4=>?_) (λg4=>?_)
 .right;rename_i l4 H4 hs4;rcases(by omega:wy=11\/wy=12) with rfl|rfl
  .right;rename_i t H11 hs11;have z6:Sep (tu t (Rw.tl (.sp (.read b)))::_) _:=hs11.toT;exact q t (.sp (.read b)) _ True.intro ((ag (n:=m+10) (z6.pull (A:=hand h _) (by symm)) nofun).sub (by ac_nf))
  .right;rename_i t H11 hs11;have z6:Sep (tu t (Rw.tl (.sp (.write b)))::_) _:=hs11.toT;exact q t (.sp (.write b)) _ True.intro ((ag (n:=m+10) (z6.pull (A:=hand h _) (by symm)) nofun).sub (by ac_nf))
 walk_at "gd";rename_i r6 H6 r60 r61 hs6 l7 H7 hs7 r8 H8 r80 r81 hs8;obtain⟨o,e3,ho⟩:=AJ r80 r81;refine bE (by grind) e3 ?_;right;rename_i t H11 hs11;have z6:Sep (tu t (Rw.tl (.hop r6 o))::_) _:=hs11.toT;exact q t (.hop r6 o) _ ⟨⟨by omega,by omega⟩,ho⟩ ((ag (n:=m+10) (z6.pull (A:=hand h _) (by symm)) nofun).sub (by ac_nf))
def vt {t:Addr}(r:Rw)(ro:Ro K R)(hk:5<=k)(ok:r.ok)(z:Sep (tu t r.tl::O) H)(q:∀ d H',Sep (ng R d r::tu t r.tl::O) H'->Q (ut d) H'):aa tab R k 65 [ut t] H Q E:=by
 delta gA;cases r with
 |lg w=>
  have f:∀ x ∈ ([("set":Str),"add","take","read","write","hop"]),la (v4 w.s) (v4 x)=false:=by cases w<;>decide+kernel
  right;refine cb (f "set" (by decide)) ?_;right;refine cb (f "add" (by decide)) ?_;right;refine cb (f "take" (by decide)) ?_;right;refine cb (f "read" (by decide)) ?_;right;refine cb (f "write" (by decide)) ?_;right;refine cb (f "hop" (by decide)) ?_;right;exact A6 w nofun z q
 |hop n o=>
  right
  repeat walk_at "sc"
  intro d dx g1 g2 g3;exact zk ro nofun ok.1.1 ok.1.2 ok.2 (d4 z g1 g2 g3) (λH2 z2=>⟨rfl,q d H2 z2⟩)
 |sp s=>
  cases s with
  |set n i=>
   right
   repeat walk_at "sc"
   intro d dx g1 g2 g3;exact Cj ro nofun ok.1 ok.2 (d4 z g1 g2 g3) (λH2 z2=>⟨rfl,q d H2 z2⟩)
  |add n i=>
   right
   repeat walk_at "sc"
   intro d dx g1 g2 g3;exact Cv ro nofun ok.1 ok.2 (d4 z g1 g2 g3) (λH2 z2=>⟨rfl,q d H2 z2⟩)
  |take n m=>
   right
   repeat walk_at "sc"
   intro d dx g1 g2 g3;exact DJ ro nofun (d4 z g1 g2 g3) (λH2 z2=>⟨rfl,q d H2 z2⟩)
  |read n=>
   right
   repeat walk_at "sc"
   intro d dx g1 g2 g3;exact C8 ro nofun (d4 z g1 g2 g3) (λH2 z2=>⟨rfl,q d H2 z2⟩)
  |write n=>
   right
   repeat walk_at "sc"
   intro d dx g1 g2 g3;exact CW ro nofun (d4 z g1 g2 g3) (λH2 z2=>⟨rfl,q d H2 z2⟩)
def bw {A:aq}:∀ {L O Δ:List aq},ae A O Δ->ae A (L++O) (L++Δ)
 | [],_,_,h=>h
 |B::L,_,_,h=>.t (bw h)
def iH {α:Type}{f:α->aq}{x:α}:∀ {l:List α},x ∈ l->∃ Δ,∀ O,ae (f x) (l.map f++O) (Δ++O)
 |y::l,h=>by
  rcases lv.mp h with rfl|h
  .exact⟨l.map f,λO=>.e⟩
  .obtain⟨Δ,hp⟩:=iH (f:=f) h;exact⟨f y::Δ,λO=>.t (hp O)⟩
section
variable {m l s b:Addr}{at_:Int}{ds:List V}{cs:List Int}{ws:List Str}
def t8 {j:Int}{wd:Str}(ro:Ro K R)(hk:4<=k)(h0:0<=i)(h1:i<=j)(h2:j<=ws.length)(hw:eA wd=true)(z:Sep (eE R m l s b at_ ds::aC R s cs ws::O) H)(q:∀ H',Sep (eE R m l s b at_ ds::aC R s cs (cV wd ws i.toNat (j-i).toNat)::O) H'->Q wf H'):aa tab R k 32 [ut m,v0 i,v0 j,v4 wd] H Q E:=by
 delta bF;obtain⟨dx,z1⟩:=mZ z;right;refine ai cR z .k1 rfl rfl ?_;right;refine aS (vs':=[_,_,_,_]) rfl ?_;refine vD ro nofun z .k1 h0 h1 h2 hw (λH1 z2=>?_);right;exact q H1 z2
end
def qS {wd:Str}{lo n:Nat}:cV wd ws lo (n+1)=(cV wd ws lo n).set (lo+n) wd:=rfl
abbrev jg (v:V):aq:=⟨λH D=>(∃ t,tyName v H=some t/\t≠"dict")\/∃ a,v=ut a/\D a/\H a=some (.dK []),λH H' D h k g=>by
  rcases h with⟨t,h1,h2⟩|⟨a,h1,h2,h3⟩
  .exact .inl ⟨t,g.ty h1,h2⟩
  .exact .inr ⟨a,h1,h2,(k a h2).trans h3⟩,λH D D' h k=>by
  rcases h with h|⟨a,h1,h2,h3⟩
  .exact .inl h
  .exact .inr ⟨a,h1,k a h2,h3⟩⟩
def qA (s:Sep (jg v::O) H):∃ t,tyName v H=some t:=by
 obtain⟨D,k,D1,D2,s1,s2,dj,h1,h2⟩:=s;rcases h1 with⟨t,h,_⟩|⟨a,rfl,_,h⟩
 .exact⟨t,h⟩
 .exact⟨"dict",ym h⟩
def aO (h:tyName v H=some t)(n:t≠"dict") (s:Sep O H):Sep (jg v::O) H:=s.free λ_=>.inl ⟨t,h,n⟩
def ya (s:Sep (pt a (.dK [])::O) H):Sep (jg (ut a)::O) H:=Sep.imp (A:=pt a (.dK [])) (B:=jg (ut a)) (λH D h=>.inr ⟨a,rfl,(show D a/\H a=some (.dK []) from h).1,(show D a/\H a=some (.dK []) from h).2⟩) s
def Cw (s:Sep (jg v::O) H)(q:Q (.bl true) H):cy K false v v H Q:=by
 obtain⟨D,k,D1,D2,s1,s2,dj,h1,h2⟩:=s;rcases h1 with⟨t,h,n⟩|⟨a,rfl,_,h⟩
 .have fl:ay v=true->cy K false v v H Q:=λf=>eY f f (by rw[a8 f];exact q)
  cases aX h with
  |non=>exact fl rfl
  |bl=>exact fl rfl
  |int=>exact fl rfl
  |str=>exact fl rfl
  |lst e=>exact eq_self (.inl ⟨_,aN.of e⟩) q
  |tup e=>exact eq_self (.inr (.inl ⟨_,ba.of e⟩)) q
  |dct e=>exact absurd rfl n
 .exact eq_self (.inr (.inr h)) q
def tm:(10:Int) ^ Int.toNat 59=100000000000000000000000000000000000000000000000000000000000:=by decide
abbrev BB (lo hi:Int)(v:V):Prop:=∀ i,v=v0 i->i<lo\/hi<i
def uP {lo hi:Int}(hk:2<=k)(l0: -1000000000<=lo)(l1:hi<=1000000000)(s:Sep (hand h m::O) H)(hm:m<=1099511000000)(q:∀ v H',BB lo hi v->Sep (jg v::hand h (m+3)::O) H'->Q v H'):aa tab R k 61 [ut h,v0 lo,v0 hi] H Q E:=by
 delta iW;walk_at "gd";rename_i r H1 hr0 hr1 hs1;have fin:∀ {i:Int}{n:Int}{H:Hp},(i<lo\/hi<i)->n<=m+3->Sep (hand h n::O) H->Q (v0 i) H:=λ{i n H} hi hn hs=>q _ _ (λj e=>by cases e;exact hi) (aO (t:="int") rfl (by decide) (ag hs hn))
 refine aE (λh0=>?_) (λh0=>?_)
 .walk_at "gd";rename_i r2 H2 hr02 hr12 hs2 p H3 hs3;obtain⟨v,hv,hmem⟩:=aY (xs:=[v0 0,v0 r2]) hr0 (by simpa using h0);refine bE hs3.at hv ?_;rcases(by simpa using hmem:v=v0 0\/v=v0 r2) with rfl|rfl
  .walk_at "gd";exact fin nofun nofun hs3.drop
  .walk_at "gd";exact fin nofun nofun hs3.drop
 walk_at "gd";refine aE (λh1=>?_) (λh1=>?_)
 .walk_at "gd";rename_i r2 H2 hr02 hr12 hs2 p H3 hs3;obtain⟨v,hv,hmem⟩:=aY (xs:=[v0 0,v0 r2]) (i:=r-2) nofun (by simp;omega);refine bE hs3.at hv ?_;rcases(by simpa using hmem:v=v0 0\/v=v0 r2) with rfl|rfl
  .walk_at "gd";exact fin nofun nofun hs3.drop
  .walk_at "gd";exact fin nofun nofun hs3.drop
 walk_at "gd";refine bz (λh2=>?_) (λh2=>?_)
 .walk_at "gd";rename_i r2 H2 hr02 hr12 hs2;exact fin (by rw[tm];omega) nofun hs2
 walk_at "gd";refine bz (λh3=>?_) (λh3=>?_)
 .walk_at "gd";rename_i r2 H2 hr02 hr12 hs2;exact fin (by rw[tm];omega) nofun hs2
 walk_at "gd";rename_i p1 H2 hs2 p2 H3 hs3 p3 H4 hs4 p H5 hs5 i H6 hi0 hi1 hs6;obtain⟨v,hv,hmem⟩:=aY (xs:=[wf,V.bl true,V.bl false,v4 "1",ut p1,ut p2,ut p3,v4 "here",v4 ""]) hi0 (by simpa using hi1);refine bE (by grind) hv ?_;have e1:tyName (ut p1) H6=some "list":=j4 (by grind);have e2:tyName (ut p2) H6=some "tuple":=wL (by grind);have hs7:Sep (hand h (m+3)::O) H6:=ag (hs6.sub (by ac_nf)) nofun;simp only[lv,not_mem_nil,or_false]at hmem;rcases hmem with rfl|rfl|rfl|rfl|rfl|rfl|rfl|rfl|rfl
 .exact q _ _ (λi e=>by cases e) (aO (t:="NoneType") rfl (by decide) hs7)
 .exact q _ _ (λi e=>by cases e) (aO (t:="bool") rfl (by decide) hs7)
 .exact q _ _ (λi e=>by cases e) (aO (t:="bool") rfl (by decide) hs7)
 .exact q _ _ (λi e=>by cases e) (aO (t:="str") rfl (by decide) hs7)
 .exact q _ _ (λi e=>by cases e) (aO e1 (by decide) hs7)
 .exact q _ _ (λi e=>by cases e) (aO e2 (by decide) hs7)
 .exact q _ _ (λi e=>by cases e) (ya ((ag (n:=m+3) (hs6.pull (A:=hand h _) (by symm)) nofun).sub (by ac_nf)))
 .exact q _ _ (λi e=>by cases e) (aO (t:="str") rfl (by decide) hs7)
 .exact q _ _ (λi e=>by cases e) (aO (t:="str") rfl (by decide) hs7)
abbrev bA (p:Addr×Rw):V:=ut p.1
abbrev vR (R:Rt)(p:Addr×Rw):aq:=ng R p.1 p.2
abbrev qd (R:Rt)(v:V)(H:Hp):Prop:=(∃ t,tyName v H=some t)\/∃ a c dx fs,v=ut a/\H a=some (wp (R.cad c) dx fs)/\(c=8\/c=23)
def qd.st {H':Hp}(h:qd R v H)(g:fV H H'):qd R v H':=by
 rcases h with⟨t,h⟩|⟨a,c,dx,fs,e,h,hc⟩
 .exact .inl ⟨t,g.ty h⟩
 .obtain⟨o,h1,h2⟩:=g a _ h;cases o with
  |ins C d2 fs2=>
   have h2:wp C d2 []=wp (R.cad c) dx []:=h2;cases h2;exact .inr ⟨a,c,dx,fs2,e,h1,hc⟩
  |fZ _ u=>cases u<;>cases h2
  |_=>cases h2
abbrev k9 (R:Rt)(v:V):aq:=⟨λH _=>qd R v H,λH H' D h _ g=>h.st g,λH D D' h _=>h⟩
def k9.of (s:Sep (k9 R v::O) H):qd R v H:=let⟨D,k,D1,D2,s1,s2,dj,h1,h2⟩:=s;h1
def k9.mk (h:qd R v H)(s:Sep O H):Sep (k9 R v::O) H:=s.free λ_=>h
abbrev yL (v:V):Prop:=(∃ a,v=ut a)\/ay v=true
def qd.yL {v:V}(h:qd R v H):yL v:=by
 rcases h with⟨t,h⟩|⟨a,_,_,_,e,_⟩
 .cases aX h<;>first|exact .inl ⟨_,rfl⟩|exact .inr rfl
 .exact .inl ⟨a,e⟩
def Bj (hT:G.T=tab)(hR:G.R=R)(h:qd R v H)(q:Q (.bl false) H):cX G (.own 9) v H Q:=by
 subst hR;rcases h with⟨t,h⟩|⟨a,c,dx,fs,rfl,h,hc⟩
 .refine CK h ?_ q;rw[hT];cases aX h<;>rfl
 .rcases hc with rfl|rfl
  .exact pN h (by rw[hT];rfl) (by rw[hT];rfl) q
  .exact pN h (by rw[hT];rfl) (by rw[hT];rfl) q
abbrev dP (R:Rt)(O:List aq)(v:V):Prop:=∃ a r Δ,v=ut a/\ae (ng R a r) O Δ
inductive cN (R:Rt) (O:List aq):V->Int->Prop where
 |ty {v:V}{t:String}{Δ:List aq}(p:ae (ty v t) O Δ) (h:t≠"list") (h2:t≠"dict"):cN R O v (-1)
 |dct {a:Addr}{Δ:List aq}(p:ae (pt a (.dK [])) O Δ):cN R O (ut a) (-1)
 |own {a:Addr}{r:Rw}{Δ:List aq}(p:ae (ng R a r) O Δ):cN R O (ut a) (-1)
 |len {L:Addr}{xs:List V}{Δ:List aq}(p:ae (pt L (wl xs)) O Δ) (h:¬ (1<=xs.length/\xs.length<=24)) (hl:xs.length<=1000) (hx:∀ x ∈ xs,yL x):cN R O (ut L) (-1)
 |el {L:Addr}{xs:List V}{Δ Δ':List aq}{j:Nat}{x:V}(p:ae (pt L (wl xs)) O Δ) (h1:1<=xs.length) (h2:xs.length<=24) (h:∀ (i:Nat) y,i<j->xs[i]? =some y->dP R O y) (e:xs[j]? =some x) (p2:ae (k9 R x) O Δ') (hx:∀ x ∈ xs,yL x):cN R O (ut L) (j:Int)
def dP.more (h:dP R O v):dP R (A::O) v:=let⟨a,r,_,e,p⟩:=h;⟨a,r,_,e,.t p⟩
def cN.more (h:cN R O v i):cN R (A::O) v i:=by
 cases h with
 |ty p h h2=>exact .ty (.t p) h h2
 |dct p=>exact .dct (.t p)
 |own p=>exact .own (.t p)
 |len p h hl hx=>exact .len (.t p) h hl hx
 |el p h1 h2 h e p2 hx=>exact .el (.t p) h1 h2 (λi y hi e=>(h i y hi e).more) e (.t p2) hx
def dU (hT:G.T=tab)(r:Rw):G.T.subT.lookup (r.cl,"list")=some false/\G.T.oc.contains r.cl=true:=by
 cases G;cases hT;cases r with
 |lg w=>cases w<;>exact⟨rfl,rfl⟩
 |sp s=>cases s<;>exact⟨rfl,rfl⟩
 |hop n o=>exact⟨rfl,rfl⟩
def uB {n:String}{j:Nat}{fs:List (Str×V)}{b:Bool}(e:H a=some (wp (G.R.cad j) dx fs))(ho:G.T.oc.contains j=true)(hb:G.T.subT.lookup (j,n)=some b)(q:Q (.bl b) H):cX G (.ty n) (ut a) H Q:=by unfold cX;exact .inr ⟨a,j,b,rfl,.inl ⟨ho,dx,fs,e⟩,hb,q⟩
def ji (hk:1<=k)(s:Sep (pt x (.exc (R.cad 6) none [] true)::O) H)(q:∀ d H',Sep (pt x (.exc (R.cad 6) (some d) [("at",v)] true)::pt d (.own x)::O) H'->Q wf H'):aa tab R k 5 [ut x,v] H Q E:=by
 delta cg;right;refine⟨_,6,_,_,_,_,rfl,by grind,rfl,?_⟩;right;refine pQ s rfl rfl (λd H hs=>?_);right;exact q d H hs
def iK (hk:1<=k)(s:Sep (pt x (.exc (R.cad 7) none [] true)::O) H)(q:∀ d H',Sep (pt x (.exc (R.cad 7) (some d) [("at",v)] true)::pt d (.own x)::O) H'->Q wf H'):aa tab R k 6 [ut x,v] H Q E:=by
 delta bQ;right;refine⟨_,7,_,_,_,_,rfl,by grind,rfl,?_⟩;right;refine pQ s rfl rfl (λd H hs=>?_);right;exact q d H hs
def gd {G:Gx}(hk:1<=k)(z:Sep O H)(q:∀ e H',Sep (v8 (R.cad 6) [("at",v)] e false::O) H'->E e H'):∀ e,H e=none->aa tab R k 5 [ut e,v] (upd H e (.exc (R.cad 6) none [] true)) (λu H2=>u=wf/\∃ a i dx fs,ut e=ut a/\H2 a=some (.exc (R.cad i) dx fs true)/\tab.xc.contains i=true/\E a (upd H2 a (.exc (R.cad i) dx fs false))) E:=λe he=>by
 refine ji nofun (z.new he) (λd H3 hs3=>⟨rfl,?_⟩);exact g9 (G:=⟨tab,R,aa tab R k,.calm⟩) hs3 .e rfl (λH4 hs4=>q e H4 (lQ hs4))
section
variable {v:V}{at_:Int}
def rM (ro:Ro K R)(hk:2<=k)(z:Sep O H)(hb:cN R O v at_)(q:∀ e H',Sep (v8 (R.cad 6) [("at",v0 at_)] e false::O) H'->E e H'):aa tab R k 27 [v] H Q E:=by
 delta cP;cases hb with
 |ty p h h2=>
  left;have ht:=(z.pull p).Bs;refine aT ht (b:=false) ?_ ?_
  .cases aX ht<;>first|rfl|exact absurd rfl h
  right;exact gd (G:=⟨tab,R,aa tab R (k-1),.calm⟩) nofun z q
 |dct p=>
  left;refine aT (t:="dict") (ym (z.get p)) (b:=false) rfl ?_;right;exact gd (G:=⟨tab,R,aa tab R (k-1),.calm⟩) nofun z q
 | @own a r Δ p=>
  obtain⟨dx,fs,e⟩:=mj z p;left;refine uB e (dU rfl r).2 (dU rfl r).1 ?_;right;exact gd (G:=⟨tab,R,aa tab R (k-1),.calm⟩) nofun z q
 |len p h hl hx=>
  left;refine aT (t:="list") (j4 (z.get p)) rfl ?_;right;refine fA (z.get p) ?_;right;refine aE (λh1=>?_) (λh1=>?_)
  .left;simp only[ro.g_MOST_ROWS];right;refine aE (λh2=>absurd ⟨by omega,by omega⟩ h) (λh2=>?_);right;exact gd (G:=⟨tab,R,aa tab R (k-1),.calm⟩) nofun z q
  .right;exact gd (G:=⟨tab,R,aa tab R (k-1),.calm⟩) nofun z q
 | @el L xs Δ Δ' j x p h1 h2 h e p2 hx=>
  left;refine aT (t:="list") (j4 (z.get p)) rfl ?_;right;refine fA (z.get p) ?_;right;refine aE (λ_=>?_) (λh=>absurd nofun h);left;simp only[ro.g_MOST_ROWS];right;refine aE (λ_=>?_) (λh=>absurd nofun h);right;refine BF (z.get p) ?_;refine jS (xs:=xs) (λi U H=>∃ u v,U=[some (ut L),u,v]/\i<=j/\Sep O H) ?_ ?_ ?_ ?_
  .exact⟨none,none,rfl,Nat.zero_le _,z⟩
  .rintro i U H ⟨u,v,rfl,_,hs⟩;exact hs.get p
  .rintro i y T U H hy ⟨u,v,rfl,hi,hs⟩ hT;have hs4:=hs.iP (xs:=[v0 i,y]) hT;generalize upd H T _=H4 at hs4⊢;have eT:=hs4.atT;left;refine⟨T,_,rfl,.inl (ba.of eT),rfl,?_⟩;left
   by_cases he:i=j
   .subst he;rw[e]at hy;cases hy;refine Bj rfl rfl (k9.of (hs4.pull (.t p2))) ?_;right;exact gd (G:=⟨tab,R,aa tab R (k-1),.calm⟩) nofun hs4 (λe H' z'=>q e H' (z'.sub (.cons .e (.drop .refl))))
   .obtain⟨a,r,Δ2,rfl,hp⟩:=h i y nofun hy;obtain⟨dx,fs,ea⟩:=mj hs4 (.t hp);refine pN ea (gK r).1 (b:=true) (gK r).2 ?_;right;exact⟨_,_,rfl,by omega,hs4.drop⟩
  .rintro U H ⟨u,v,rfl,hi,hs⟩;have:=(sw.mp e).1
   omega
def lx (hk:3<=k)(z:Sep O H)(ht:tyName v H=some t)(ho:BB 0 n v)(q:∀ e H',Sep (v8 (R.cad 7) [("at",v)] e false::O) H'->E e H'):aa tab R k 28 [v,v0 n] H Q E:=by
 delta cu;right;have fin:∀ e,H e=none->aa tab R (k-1) 6 [ut e,v] (upd H e (.exc (R.cad 7) none [] true)) (λu H2=>u=wf/\∃ a i dx fs,ut e=ut a/\H2 a=some (.exc (R.cad i) dx fs true)/\tab.xc.contains i=true/\E a (upd H2 a (.exc (R.cad i) dx fs false))) E:=λe he=>
  iK nofun (z.new he) (λd H3 hs3=>⟨rfl,g9 (G:=⟨tab,R,aa tab R k,.calm⟩) hs3 .e rfl (λH4 hs4=>q e H4 (lQ hs4))⟩)
 refine az nofun ht ?_;left;cases hw:sR v with
 |false=>
  right;exact fin
 |true=>
  cases v with
  |int i=>
   have:=ho i rfl;right;refine aE (λh1=>?_) (λh1=>?_)
   .right;refine aE (λh2=>absurd h2 nofun) (λh2=>?_);right;exact fin
   .right;exact fin
  |_=>cases hw
end
section
variable {v w u at_:V}{s b L:Addr}{i:Int}{x:Bx}{cs:List Int}{ws:List Str}{S:List (Addr×Rw)}
def lu (ro:Ro K R)(hk:6<=k)(hb:cN R O v i)(z:Sep O H)(q:∀ t H',Sep (tu t [v4 "rows",v0 i]::O) H'->Q (ut t) H'):aa tab R k 67 [v,ut s,ut b,at_] H Q E:=by
 delta cn;right;intro m dx g1 g2 g3;delta aH;right;refine rM ro nofun (d4 z g1 g2 g3) hb.more.more (λe H5 z5=>?_);obtain⟨ed,z6⟩:=sN z5;clear z5;left;refine⟨6,_,_,true,z6.at,rfl,rfl,?_⟩;right;refine ou z6 rfl z6.at (b:=false) rfl (λp H6 z7=>?_);right;rename_i t H7 z8;exact q t H7 (z8.toT.sub (by ac_nf))
def kA (ro:Ro K R)(hk:6<=k)(n0:1<=S.length)(n1:S.length<=24)(hd:ug R O (S.map bA))(po:ae (jg w) O Δo)(ho:BB 0 S.length w)(z:Sep (pt L (wl (S.map bA))::O) H)(q:∀ t H',Sep (tu t [v4 "place",w]::pt L (wl (S.map bA))::O) H'->Q (ut t) H'):aa tab R k 67 [ut L,ut s,ut b,w] H Q E:=by
 delta cn;right;intro m dx g1 g2 g3;delta aH;right;refine fD ro nofun (by rw[ce];exact n0) (by rw[ce];exact n1) (d4 z g1 g2 g3) .k2 (λv hv=>by
  obtain⟨a,r,_,e,p⟩:=hd v hv;exact⟨a,r,_,e,.t (.j2 p)⟩) (λH1 z1=>?_)
 right;rw[ce];obtain⟨t,ht⟩:=qA (z1.pull (.j2 (.t po)));refine lx nofun z1 ht ho (λe H5 z5=>?_);obtain⟨ed,z6⟩:=sN z5;clear z5;left;refine⟨7,_,_,true,z6.at,rfl,rfl,?_⟩;right;refine ou z6 rfl z6.at (b:=false) rfl (λp H6 z7=>?_);right;rename_i t H7 z8;exact q t H7 (z8.toT.sub (by ac_nf))
def mP (ro:Ro K R)(hk:8<=k)(n0:1<=S.length)(n1:S.length<=24)(h0:0<=i)(h1:i<=S.length)(hd:ug R O (S.map bA))(z:Sep (pt L (wl (S.map bA))::aC R s cs ws::aJ R b x::O) H)(q:∀ t H',Sep (tu t [v4 "made",v0 i]::pt L (wl (S.map bA))::aC R s cs ws::aJ R b x::O) H'->Q (ut t) H'):aa tab R k 67 [ut L,ut s,ut b,v0 i] H Q E:=by
 delta cn;right;intro m dx g1 g2 g3;refine jN (ds:=S.map bA) ro nofun (by rw[ce];exact n0) (by rw[ce];exact n1) h0 (by rw[ce];exact h1) .e .k1 .k2 (λv hv=>by
  obtain⟨a,r,_,e,p⟩:=hd v hv;exact⟨a,r,_,e,.t (.j2 p)⟩) (d4 z g1 g2 g3) (λl2 s2 b2 H1 z1=>⟨rfl,?_⟩)
 clear z;right;refine ai d7 z1 .e rfl rfl ?_;left;refine fg ro nofun z1 (λt t1 l1 H2 z2=>?_);right;rename_i t3 H3 z3;exact q t3 H3 (z3.toT.sub (by ac_nf))
def jP {t T:Addr}{n:Str}{Δ1 Δ2 Δ3:List aq}(hk:1<=k)(z:Sep O H)(p1:ae (tu t [v4 n,u]) O Δ1)(p2:ae (tu T [v4 n,u]) O Δ2)(po:ae (jg u) O Δ3)(q:Q (.bl true) H):aa tab R k 68 [ut t,ut T] H Q E:=by
 delta fm;have zo:=z.pull po;obtain⟨ty,ht⟩:=qA zo;have e1:=z.Ar p1;have e2:=z.Ar p2;left;refine iN e1 rfl ?_;left;refine iN e2 rfl ?_;left;refine eY rfl rfl ?_;left;refine cD (a8 rfl) ?_;left;refine iN e1 (i:=1) rfl ?_;cases aX ht
 all_goals
  refine aT ht rfl ?_;left;refine iN e2 (i:=1) rfl ?_;refine aT ht rfl ?_;left;refine eY rfl rfl ?_;left;refine cD rfl ?_;left;refine iN e1 (i:=1) rfl ?_;left;refine iN e2 (i:=1) rfl ?_;exact Cw zo q
end
section
variable {v:V}{i:Int}
def zW (ro:Ro K R)(r:Rw):ie K (R.cad r.cl)=true:=by
 have h:=all_eq_true.mp ro.e_ne;cases r with
 |lg w=>cases w<;>exact h _ (List.mem_of_elem_eq_true rfl)
 |sp s=>cases s<;>exact h _ (List.mem_of_elem_eq_true rfl)
 |hop n o=>exact h _ (List.mem_of_elem_eq_true rfl)
def Gr {n:Nat}{x:V}(h:yL x):eu R.K H (n+1) x x true:=by
 rcases h with⟨a,rfl⟩|h
 .exact .same a
 .have:=eu.flat (K:=R.K) (H:=H) (n:=n+1) h h;rw[a8 h]at this;exact this
abbrev se (R:Rt)(O:List aq)(v c:V):Prop:=∀ (H:Hp) (Q:VK),Sep O H->Q (.bl false) H->cy R.K true v c H Q
def se.more {c:V}(h:se R O v c):se R (A::O) v c:=λH Q z q=>h H Q z.drop q
def rZ (ro:Ro K R)(hk:1<=k)(hb:cN R O v i)(z:Sep O H)(q:∀ c X H',se R (X++O) v c->cN R (X++O) v i->Sep (X++O) H'->Q c H'):aa tab R k 72 [v] H Q E:=by
 delta ei;have hb0:=hb;have lst:∀ {L P:Addr}{xs:List V}{Δ:List aq},ae (pt L (wl xs)) O Δ->(∀ x ∈ xs,yL x)->se R (pt P (wl xs)::O) (ut L) (ut P):=λ{L P xs Δ} p hx H Q z q=>by
  have z2:=z.pull (.t p);refine jZ (A5 (n:=0) (xs:=xs) (ys:=xs) z2.at z.at rfl (λj x y e1 e2=>?_)) (by decide) (Sep.ne z2) q;rw[e1]at e2;cases e2;exact Gr (hx x (cr e1))
 cases hb with
 |ty p h h2=>
  have ht:=(z.pull p).Bs;left;refine aT ht (b:=false) ?_ ?_
  .cases aX ht<;>first|rfl|exact absurd rfl h
  right;refine q _ [] H (λH Q z2 q2=>?_) hb0 z;have ht:=(z2.pull p).Bs;cases aX ht with
  |non=>exact dX rfl rfl (by rw[a8 rfl];exact q2)
  |bl b=>exact dX rfl rfl (by rw[a8 rfl];exact q2)
  |int b=>exact dX rfl rfl (by rw[a8 rfl];exact q2)
  |str b=>exact dX rfl rfl (by rw[a8 rfl];exact q2)
  |lst e=>exact absurd rfl h
  |tup e=>exact ne_self (.inl ⟨_,ba.of e⟩) q2
  |dct e=>exact absurd rfl h2
 |dct p=>
  left;refine aT (t:="dict") (ym (z.get p)) (b:=false) rfl ?_;right;exact q _ [] H (λH Q z q=>ne_self (.inr (.inl (z.get p))) q) hb0 z
 | @own a r Δ p=>
  obtain⟨dx,fs,e⟩:=mj z p;left;refine uB e (dU rfl r).2 (dU rfl r).1 ?_;right;refine q _ [] H (λH Q z q=>?_) hb0 z;obtain⟨dx,fs,e⟩:=mj z p;refine ne_self (.inr (.inr (.inl ⟨_,dx,fs,e,?_⟩))) q;have:=zW ro r;rw[<-ro.hK]at this;exact this
 |len p h hl hx=>
  left;refine aT (t:="list") (j4 (z.get p)) rfl ?_;left;refine cD rfl ?_;left;refine gM z (z.get p) (λP H1 z1=>?_);exact q _ [_] H1 (lst p hx) hb0.more z1
 |el p h1 h2 h e p2 hx=>
  left;refine aT (t:="list") (j4 (z.get p)) rfl ?_;left;refine cD rfl ?_;left;refine gM z (z.get p) (λP H1 z1=>?_);exact q _ [_] H1 (lst p hx) hb0.more z1
end
section
variable {h DL s b:Addr}{m:Int}{x:Bx}{cs:List Int}{ws:List Str}{S:List (Addr×Rw)}
def rK (ro:Ro K R)(hk:6<=k)(hm:m<=1099500000000)(z:Sep (hand h m::aC R s cs ws::aJ R b x::O) H)(q:∀ v H',Sep (k9 R v::hand h (m+1)::aC R s cs ws::aJ R b x::O) H'->Q v H'):aa tab R k 69 [ut h,ut s,ut b] H Q E:=by
 delta dg;right;rename_i t1 H1 z1;refine DC z1 (λa1 d1 H2 z2=>?_);right;rename_i l1 H3 z3 e1 H4 z4 l2 H5 z5;intro hp dhp g1 g2 g3;refine zk (n:=1) (o:=none) ro nofun (by decide) (by decide) True.intro (d4 z5 g1 g2 g3) (λH6 z6=>⟨rfl,?_⟩);clear z z1 z2 z3 z4 z5;walk_at "gd";rename_i t2 H7 z7 L H8 z8;refine aS (vs':=[ut h,v0 12]) rfl ?_;refine ph nofun (z8.pull (A:=hand h m) (by symm)) nofun (by decide) (by decide) (λr H9 r0 r1 z9=>?_);left;obtain⟨v,hv,hmem⟩:=aY (xs:=[wf,v4 "copy",v0 0,V.bl true,ut t1,ut l1,ut e1,ut s,ut b,ut l2,v4 "",ut t2]) r0 (by simpa using r1);refine bE (by grind) hv ?_;have nv:qd R v H9:=by
  have f1:tyName (ut t1) H9=some "tuple":=wL (by grind);have f2:tyName (ut l1) H9=some "list":=j4 (by grind);have f3:tyName (ut e1) H9=some "dict":=ym (by grind);have f4:tyName (ut l2) H9=some "list":=j4 (by grind);have f5:tyName (ut t2) H9=some "tuple":=wL (by grind);obtain⟨dB,fB,eB,_⟩:∃ dx fs,H9 b=some (wp (R.cad 8) dx fs)/\True:=by
   obtain⟨D,k,D1,D2,s1,s2,dj,h1,h2⟩:=z9.pull (A:=aJ R b x) (by symm);obtain⟨dx,fs,e,_⟩:=iq (R:=R) H9 D1 h1;exact⟨dx,fs,e,True.intro⟩
  obtain⟨dS,fS,eS,_⟩:∃ dx fs,H9 s=some (wp (R.cad 23) dx fs)/\True:=by
   obtain⟨D,k,D1,D2,s1,s2,dj,h1,h2⟩:=z9.pull (A:=aC R s cs ws) (by symm);obtain⟨dx,fs,e,_⟩:=cR (R:=R) H9 D1 h1;exact⟨dx,fs,e,True.intro⟩
  simp only[lv,not_mem_nil,or_false]at hmem;rcases hmem with rfl|rfl|rfl|rfl|rfl|rfl|rfl|rfl|rfl|rfl|rfl|rfl
  .exact .inl ⟨_,rfl⟩
  .exact .inl ⟨_,rfl⟩
  .exact .inl ⟨_,rfl⟩
  .exact .inl ⟨_,rfl⟩
  .exact .inl ⟨_,f1⟩
  .exact .inl ⟨_,f2⟩
  .exact .inl ⟨_,f3⟩
  .exact .inr ⟨s,_,_,_,rfl,eS,.inr rfl⟩
  .exact .inr ⟨b,_,_,_,rfl,eB,.inl rfl⟩
  .exact .inl ⟨_,f4⟩
  .exact .inl ⟨_,rfl⟩
  .exact .inl ⟨_,f5⟩
 exact q v H9 (k9.mk nv ((ag (n:=m+1) (z9.pull (A:=hand h _) (by symm)) nofun).sub (by ac_nf)))
def pw {lo hi:Option Int}:∀ y ∈ f6 (ss n.toNat (S.map bA)).flatten lo hi,yL y:=λy hy=>by
 unfold f6 at hy;have h1:=List.mem_of_mem_drop (List.mem_of_mem_take hy);obtain⟨l,hl,hy2⟩:=List.mem_flatten.mp h1;rw[(List.mem_replicate.mp hl).2]at hy2;obtain⟨p,_,rfl⟩:=List.mem_map.mp hy2;exact .inl ⟨_,rfl⟩
def pv {rows:List V}(n0:1<=rows.length)(h0:0<=n):(f6 (ss n.toNat rows).flatten none (some n)).length=n.toNat:=by
 have h25:(ss n.toNat rows).flatten.length=n.toNat*rows.length:=by
  rw[List.length_flatten,map_replicate,List.sum_replicate_nat]
 have h26:n.toNat<=n.toNat*rows.length:=Nat.le_mul_of_pos_right _ n0;generalize (ss n.toNat rows).flatten=ys at h25;unfold f6 HT.k7;rw[db,io];simp
 split<;>omega
def qN {Γ0:List aq}(hk:2<=k)(hm:m<=1099500000000)(n0:1<=S.length)(n1:S.length<=24)(hd:∀ p ∈ S,∃ Δ,ae (ng R p.1 p.2) Γ0 Δ) (z:Sep (hand h m::pt DL (wl (S.map bA))::O) H)
  (q:∀ v X H',cN R (X++Γ0) v (-1)->Sep (X++(hand h (m+1)::pt DL (wl (S.map bA))::O)) H'->Q v H'):aa tab R k 70 [ut h,ut DL] H Q E:=by
 delta dA;walk_at "gd";rename_i w H1 w0 w1 z1;clear z;refine bz (λe=>?_) (λe=>?_)
 .right;rename_i l2 H2 z2 l3 H3 z3;have hl:=pv (rows:=S.map bA) (n:=25) (by rw[ce];exact n0) (by decide);exact q _ [pt l3 _] H3 (.len .e (by rw[hl];decide) (by rw[hl];decide) pw) (z3.sub (by ac_nf))
 right;refine bz (λe=>?_) (λe=>?_)
 .right;rename_i l2 H2 z2 l3 H3 z3;have hl:=pv (rows:=S.map bA) (n:=300) (by rw[ce];exact n0) (by decide);exact q _ [pt l3 _] H3 (.len .e (by rw[hl];decide) (by rw[hl];decide) pw) (z3.sub (by ac_nf))
 left;refine pd z1 (z1.get .k1) (λT H2 z2=>?_);obtain⟨p0,e0⟩:∃ p,S[0]? =some p:=⟨S[0]'nofun,le _⟩;obtain⟨Δ0,pp⟩:=hd p0 (cr e0);right;rename_i l4 H4 z4 e5 H5 z5;refine bE (by grind) (uj (j:=0) (x:=bA p0) (by rw[im,e0];rfl)) ?_;left;refine tR z5 (nw rfl) (λL H6 z6=>?_);clear z1 z2 z4 z5;obtain⟨v,hv,hmem⟩:=aY (xs:=[ut T,ut l4,ut e5,wf,v4 "copy",bA p0]) (i:=w-2) nofun (by simp;omega);right;refine bE (by grind) hv ?_;simp only[lv,not_mem_nil,or_false]at hmem;rcases hmem with rfl|rfl|rfl|rfl|rfl|rfl
 .have f1:tyName (ut T) H6=some "tuple":=wL (by grind);have y:=Sep.B1 f1 z6;exact q _ [ty (ut T) "tuple"] H6 (.ty .e (by decide) (by decide)) (y.sub (by ac_nf))
 .exact q _ [pt l4 (wl [])] H6 (.len .e (by simp) (by simp) (λ_ h=>absurd h (by simp))) (z6.sub (by ac_nf))
 .exact q _ [pt e5 (.dK [])] H6 (.dct .e) (z6.sub (by ac_nf))
 .have y:=Sep.B1 (v:=wf) (t:="NoneType") (H:=H6) rfl z6;exact q _ [ty wf "NoneType"] H6 (.ty .e (by decide) (by decide)) (y.sub (by ac_nf))
 .have y:=Sep.B1 (v:=v4 "copy") (t:="str") (H:=H6) rfl z6;exact q _ [ty (v4 "copy") "str"] H6 (.ty .e (by decide) (by decide)) (y.sub (by ac_nf))
 .exact q _ [] H6 (.own pp) (z6.sub (by ac_nf))
end
abbrev rm:je->je
 | .cons (.for _ _ b) _=>b
 |_=>.nil
abbrev bG (R:Rt)(ps:List Nat)(xs:List V):aq:=⟨λH _=>∀ j ∈ ps,∀ y,xs[j]? =some y->qd R y H,λH H' D h _ g j hj y e=>(h j hj y e).st g,λH D D' h _=>h⟩
def bG.of (s:Sep (bG R ps xs::O) H){j:Nat}{y:V}(hj:j ∈ ps)(e:xs[j]? =some y):qd R y H:=let⟨D,k,D1,D2,s1,s2,dj,h1,h2⟩:=s;h1 j hj y e
def bG.mk (h:∀ j ∈ ps,∀ y,xs[j]? =some y->qd R y H) (s:Sep O H):Sep (bG R ps xs::O) H:=s.free λ_=>h
abbrev sh (a p:Nat):Nat:=if a<=p then p+1 else p
abbrev iV (i:Nat):V:=v0 (i:Int)
abbrev gf (xs:List V)(a:Nat)(v:V):List V:=xs.take a++v::xs.drop a
section
variable {xs:List V}{a i:Nat}{v:V}
def pC (ha:a<=xs.length)(h:i<a):(gf xs a v)[i]? =xs[i]? :=by
 unfold gf;rw[List.getElem?_append_left (by rw[db];omega),List.getElem?_take_of_lt h]
def wg (ha:a<=xs.length):(gf xs a v)[a]? =some v:=by
 unfold gf;rw[getElem?_append_right (by rw[db];omega),db,Nat.min_eq_left ha,Nat.sub_self]
 rfl
def pO (ha:a<=xs.length)(h:a<=i):(gf xs a v)[i+1]? =xs[i]? :=by
 unfold gf;rw[getElem?_append_right (by rw[db];omega),db,Nat.min_eq_left ha,show i+1-a=(i-a)+1 by omega,List.getElem?_cons_succ,List.getElem?_drop,show a+(i-a)=i by omega]
def ig (ha:a<=xs.length):(gf xs a v).length=xs.length+1:=by
 unfold gf;rw[ci,length_cons,db,io]
 omega
end
def AN {y:V}(s:Sep O H)(r:bZ (pt a (wl xs)) (pt a (wl (xs.take i.toNat++y::xs.drop i.toNat))) O Γ')(h0:0<=i)(h1:i<=xs.length)(hl:xs.length<=10000)(h:∀ H',Sep Γ' H'->Q wf H'):AU .insert a xs [v0 i,y] H Q:=by unfold AU;exact⟨i,y,rfl,h0,h1,hl,h _ (s.put r rfl)⟩
structure wj (S:List (Addr×Rw)) (xs:List V) (ns:List Nat):Prop where
 n0:1<=xs.length
 n1:xs.length<=24
 lt:∀ i ∈ ns,i<xs.length
 dd:∀ (i:Nat) y,xs[i]? =some y->i ∉ ns->y ∈ S.map bA
section
variable {S:List (Addr×Rw)}{xs:List V}{ns:List Nat}{a:Nat}{v:V}
def wj.set (o:wj S xs ns)(ha:a<xs.length):wj S (xs.set a v) (ns++[a]):=by
 refine⟨by rw[length_set];exact o.n0,by rw[length_set];exact o.n1,λi hi=>?_,λi y e hi=>?_⟩
 .rw[length_set];rcases mem_append.mp hi with hi|hi
  .exact o.lt i hi
  .rw[mem_singleton.mp hi];exact ha
 .have hne:a≠i:=λz=>hi (by rw[z];simp)
  rw[getElem?_set_ne hne]at e;exact o.dd i y e λz=>hi (mem_append_left _ z)
def Bv (ha:a<xs.length)(z:Sep (k9 R v::bG R ns xs::O) H):Sep (bG R (ns++[a]) (xs.set a v)::O) H:=by
 refine bG.mk (λj hj y e=>?_) z.drop.drop
 by_cases he:a=j
 .subst he;rw[getElem?_set_self ha]at e;cases e;exact k9.of z
 .rw[getElem?_set_ne he]at e;rcases mem_append.mp hj with hj|hj
  .exact bG.of z.drop hj e
  .exact absurd (mem_singleton.mp hj).symm he
def wj.ins (o:wj S xs ns)(h24:xs.length<24)(ha:a<xs.length):wj S (gf xs a v) (ns.map (sh a)++[a]):=by
 refine⟨by rw[ig nofun];omega,by rw[ig nofun];omega,λi hi=>?_,λi y e hi=>?_⟩
 .rw[ig nofun];rcases mem_append.mp hi with hi|hi
  .obtain⟨p,hp,rfl⟩:=List.mem_map.mp hi;have:=o.lt p hp;unfold sh
   split<;>omega
  .rw[mem_singleton.mp hi];omega
 .have hne:a≠i:=λz=>hi (by rw[z];simp)
  rcases Nat.lt_or_gt_of_ne hne with g|g
  .obtain⟨j,rfl⟩:∃ j,i=j+1:=⟨i-1,by omega⟩;rw[pO nofun nofun]at e;refine o.dd j y e λhj=>hi (mem_append_left _ (List.mem_map.mpr ⟨j,hj,?_⟩))
   unfold sh;rw[if_pos nofun]
  .rw[pC nofun g]at e;refine o.dd i y e λhj=>hi (mem_append_left _ (List.mem_map.mpr ⟨i,hj,?_⟩))
   unfold sh;rw[if_neg nofun]
def AV (ha:a<xs.length)(z:Sep (k9 R v::bG R ns xs::O) H):Sep (bG R (ns.map (sh a)++[a]) (gf xs a v)::O) H:=by
 refine bG.mk (λj hj y e=>?_) z.drop.drop;rcases mem_append.mp hj with hj|hj
 .obtain⟨p,hp,rfl⟩:=List.mem_map.mp hj;unfold sh at e
  split at e
  .rw[pO nofun (by assumption)]at e;exact bG.of z.drop hp e
  .rw[pC nofun nofun]at e;exact bG.of z.drop hp e
 .rw[mem_singleton.mp hj,wg nofun]at e;cases e;exact k9.of z
end
def vB {te:TE}{P:Addr}{ns:List Nat}{a:Nat}(hn:ns.length<=10)(hte:∀ {p:Nat}{H:Hp}{Q:VK},Q (iV (sh a p)) H->te [some (iV p),some (iV a)] H Q) (z:Sep O H) (pP:ae (pt P (wl (ns.map iV))) O Δ)
  (q:∀ D H',Sep (pt D (wl ((ns.map (sh a)).map iV))::O) H'->Q (ut D) H'):nV te (Bt R.K P) (none::[some (iV a)]) H Q:=by
 refine zP (xs:=ns.map iV) (by rw[ce];omega) (λD ys H=>ys=((ns.take ys.length).map (sh a)).map iV/\Sep (pt D (wl ys)::O) H) (λD ys H hI=>aN.of (hI.2.get (.t pP))) (λD hD=>⟨rfl,z.new (o:=wl []) hD⟩) (λD ys y H hy hI=>?_) (λD ys H hl hI=>?_)
 .obtain⟨e,zz⟩:=hI;have hyl:=(sw.mp hy).1;rw[ce]at hyl;rw[im]at hy;obtain⟨p,hp,rfl⟩:=mo.mp hy;refine hte ?_;refine pz.mk zz.at nofun ⟨?_,zz.set rfl⟩;rw[ci,f8,take_succ,hp,dL,dL]
  conv=>lhs;rw[e]
  rfl
 .obtain⟨e,zz⟩:=hI;rw[hl,ce,List.take_length]at e;subst e;exact q D H zz
section
variable {D:Ends}{E:St->XK}{h DL s b RW P:Addr}{m:Int}{x:Bx}{cs:List Int}{ws:List Str}{S:List (Addr×Rw)}{xs:List V}{ns:List Nat}{u6 u7 u8:Option V}
def Dy (ro:Ro K R)(hk:8<=k)(hm:m<=1099400000000)(hn:ns.length<=5)(o:wj S xs ns)(z:Sep (hand h m::pt RW (wl xs)::pt P (wl (ns.map iV))::bG R ns xs::aC R s cs ws::aJ R b x::O) H)
  (q:∀ P' xs' ns' u7 u8 H',ns'.length=ns.length+1->wj S xs' ns'->Sep (hand h (m+5)::pt RW (wl xs')::pt P' (wl (ns'.map iV))::bG R ns' xs'::aC R s cs ws::aJ R b x::O) H'->D.nx [some (ut h),some (ut DL),some (ut s),some (ut b),some (ut RW),some (ut P'),u6,u7,u8] H'):
  wB (rm (bI 3 aG.body)) ⟨tab,R,aa tab R (k-1),.calm⟩ D E [some (ut h),some (ut DL),some (ut s),some (ut b),some (ut RW),some (ut P),u6,u7,u8] H:=by
 have n0:=o.n0;have n1:=o.n1;walk_at "gd";rename_i a H1 a0 a1 z1;obtain⟨a,rfl⟩:=sn a0;have ha:a<xs.length:=by omega
 refine rK (m:=m+1) (O:=pt RW (wl xs)::pt P (wl (ns.map iV))::bG R ns xs::O) ro nofun nofun (z1.sub (by ac_nf)) (λv H2 z2=>?_);clear z z1;right;have rest:∀ {w:Bool}{H:Hp}{n:Int},n<=m+5->Sep (hand h n::k9 R v::pt RW (wl xs)::pt P (wl (ns.map iV))::bG R ns xs::aC R s cs ws::aJ R b x::O) H->(w=true->xs.length<24)->
   fP w (wB (match bI 2 (rm (bI 3 aG.body)) with| .cons (.ife _ a _) _=>a|_=>.nil) ⟨tab,R,aa tab R (k-1),.calm⟩ (BQ D λσ1 H1=>wB (bI 3 (rm (bI 3 aG.body))) ⟨tab,R,aa tab R (k-1),.calm⟩ D E σ1 H1) E [some (ut h),some (ut DL),some (ut s),some (ut b),some (ut RW),some (ut P),u6,some (iV a),some v] H)
    (wB (match bI 2 (rm (bI 3 aG.body)) with| .cons (.ife _ _ b) _=>b|_=>.nil) ⟨tab,R,aa tab R (k-1),.calm⟩ (BQ D λσ1 H1=>wB (bI 3 (rm (bI 3 aG.body))) ⟨tab,R,aa tab R (k-1),.calm⟩ D E σ1 H1) E [some (ut h),some (ut DL),some (ut s),some (ut b),some (ut RW),some (ut P),u6,some (iV a),some v] H):=λ{w H n} hn' zz hw=>by
  refine gm (λe=>?_) (λe=>?_)
  .have h24:=hw e;left;refine⟨RW,_,rfl,zz.get .k2,?_⟩;left;refine⟨_,zz.get .k2,AN zz .k2 nofun nofun nofun (λH3 z3=>?_)⟩;rw[re]at z3;have z3:Sep (hand h n::k9 R v::pt RW (wl (gf xs a v))::pt P (wl (ns.map iV))::bG R ns xs::aC R s cs ws::aJ R b x::O) H3:=z3;left;refine⟨rfl,?_⟩;refine C7 (z3.get .k3) ?_;refine vB (a:=a) (ns:=ns) nofun (λ{p H Q} hq=>?_) z3 .k3 (λP' H4 z4=>?_)
   .right;refine qD ?_;left;rw[Cu];have e9:((p:Int)+if(p:Int)>=(a:Int) then 1 else 0)=((sh a p:Nat):Int):=by
     unfold sh
     split<;>split<;>omega
    rw[e9];exact hq
   .left;refine⟨P',_,rfl,z4.at,?_⟩;left;refine⟨_,z4.at,uW z4 .e (by rw[ce,ce];omega) (λH5 z5=>?_)⟩;refine q P' (gf xs a v) (ns.map (sh a)++[a]) _ _ H5 (by rw[ci,ce];rfl) (o.ins h24 ha) ?_;have z6:Sep (k9 R v::bG R ns xs::hand h n::pt RW (wl (gf xs a v))::pt P' (wl ((ns.map (sh a)).map iV++[iV a]))::aC R s cs ws::aJ R b x::O) H5:=z5.sub (by ac_nf);have z7:=AV ha z6;rw[dL];exact(ag (n:=m+5) (z7.pull .k1) nofun).sub (.cons .e (.cons .k1 (.cons .k1 (.cons .e .refl))))
  .left;refine ql (i:=(a:Int)) zz .k2 (uM nofun nofun) rfl (λH3 z3=>?_);rw[re]at z3;left;refine⟨P,_,rfl,z3.get .k3,?_⟩;left;refine⟨_,z3.get .k3,uW z3 .k3 (by rw[ce];omega) (λH5 z5=>?_)⟩;refine q P (xs.set a v) (ns++[a]) _ _ H5 (by rw[ci];rfl) (o.set ha) ?_;have z6:Sep (k9 R v::bG R ns xs::hand h n::pt RW (wl (xs.set a v))::pt P (wl (ns.map iV++[iV a]))::aC R s cs ws::aJ R b x::O) H5:=z5.sub (by ac_nf);have z7:=Bv ha z6;rw[dL];exact(ag (n:=m+5) (z7.pull .k1) nofun).sub (.cons .e (.cons .k1 (.cons .k1 (.cons .e .refl))))
 refine aE (λe=>?_) (λe=>?_)
 .walk_at "gd";rename_i r H3 r0 r1 z3;exact rest (n:=m+1+1+1) nofun (z3.sub (by ac_nf)) (λ_=>by omega)
 .exact rest (w:=false) (n:=m+1+1) nofun (z2.sub (by ac_nf)) (λh=>by cases h)
end
def min_two {ns:List Nat}(h:ns≠[]):∃ j ∈ ns,∀ z ∈ ns,j<=z:=by
 induction ns with
 |nil=>exact absurd rfl h
 |cons a r ih=>
  by_cases hr:r=[]
  .subst hr;exact⟨a,li ..,λz hz=>by simp at hz;omega⟩
  .obtain⟨j,hj,hm⟩:=ih hr
   by_cases e:a<=j
   .exact⟨a,li ..,λz hz=>by rcases lv.mp hz with rfl|hz;exact pi _;have:=hm z hz;omega⟩
   .exact⟨j,dl _ hj,λz hz=>by rcases lv.mp hz with rfl|hz;omega;exact hm z hz⟩
section
variable {h DL s b:Addr}{m:Int}{x:Bx}{cs:List Int}{ws:List Str}{S:List (Addr×Rw)}
def wK (ro:Ro K R)(hk:8<=k)(hm:m<=1099300000000)(n0:1<=S.length)(n1:S.length<=24)(hd:∀ p ∈ S,∃ Δ,ae (ng R p.1 p.2) O Δ) (z:Sep (hand h m::pt DL (wl (S.map bA))::aC R s cs ws::aJ R b x::O) H)
  (q:∀ t v i X n H',n<=m+20->cN R (X++O) v i->Sep (tu t [v,v0 i]::(X++(hand h n::pt DL (wl (S.map bA))::aC R s cs ws::aJ R b x::O))) H'->Q (ut t) H'):aa tab R k 71 [ut h,ut DL,ut s,ut b] H Q E:=by
 delta aG;walk_at "gd";rename_i w H1 w0 w1 z1;clear z;refine bz (λe=>?_) (λe=>?_)
 .right;refine qN (m:=m+1) nofun nofun n0 n1 (O:=aC R s cs ws::aJ R b x::O) hd z1 (λv X H2 hb z2=>?_);left;refine pk z2 (nw rfl) (λt H3 z3=>?_);exact q t v (-1) X (m+1+1) H3 nofun hb z3.toT
 .walk_at "gd";rename_i RW H2 z2 P H3 z3 r H4 r0 r1 z4;have z5':Sep (hand h (m+2)::pt RW (wl (S.map bA))::pt P (wl [])::aC R s cs ws::aJ R b x::pt DL (wl (S.map bA))::O) H4:=(ag (n:=m+2) z4 nofun).sub (by ac_nf);have z5:Sep (hand h (m+2)::pt RW (wl (S.map bA))::pt P (wl (([]:List Nat).map iV))::aC R s cs ws::aJ R b x::pt DL (wl (S.map bA))::O) H4:=z5';clear z1 z2 z3 z4 z5';refine dN (n:=(1+r).toNat) (λj U H=>∃ (P:Addr) (xs:List V) (ns:List Nat) (u6 u7 u8:Option V),U=[some (ut h),some (ut DL),some (ut s),some (ut b),some (ut RW),some (ut P),u6,u7,u8]/\ns.length=j/\wj S xs ns/\Sep (hand h (m+2+5*(j:Int))::pt RW (wl xs)::pt P (wl (ns.map iV))::bG R ns xs::aC R s cs ws::aJ R b x::pt DL (wl (S.map bA))::O) H) ?_ ?_ ?_
  .refine⟨P,S.map bA,[],_,_,_,rfl,rfl,⟨by rw[ce];exact n0,by rw[ce];exact n1,λi hi=>absurd hi (by simp),λi y e _=>cr e⟩,?_⟩;have z6:Sep (bG R [] (S.map bA)::hand h (m+2)::pt RW (wl (S.map bA))::pt P (wl (([]:List Nat).map iV))::aC R s cs ws::aJ R b x::pt DL (wl (S.map bA))::O) H4:=bG.mk (λj hj=>absurd hj (by simp)) z5;exact(ag (n:=m+2+5*((0:Nat):Int)) (z6.pull .k1) nofun).sub (by ac_nf)
  .rintro j U H hj ⟨P,xs,ns,u6,u7,u8,rfl,hn,o,zz⟩;refine Dy (k:=k) (m:=m+2+5*(j:Int)) ro nofun nofun nofun o zz (λP' xs' ns' u7 u8 H' hn' o' zz'=>?_);exact⟨P',xs',ns',_,u7,u8,rfl,by omega,o',ag zz' nofun⟩
  .rintro U H ⟨P,xs,ns,u6,u7,u8,rfl,hn,o,zz⟩;clear z5;obtain⟨j,hj,hjm⟩:=min_two (ns:=ns) (λz=>by rw[z]at hn;simp at hn;omega);have hjl:=o.lt j hj;have n0:=o.n0;have n1:=o.n1;right;refine w8 (ns:=ns.map λ(i:Nat)=>(i:Int)) (m:=(j:Int)) rfl (by rw[List.map_map];exact zz.get (o:=wl (ns.map iV)) (by symm)) (List.mem_map.mpr ⟨j,hj,rfl⟩) (λz hz=>?_) ?_
   .obtain⟨a,ha,rfl⟩:=List.mem_map.mp hz;have:=hjm a ha
    omega
   have ej:xs[j]? =some (xs[j]'hjl):=le _;generalize xs[j]'hjl=y at ej;have ny:qd R y H:=bG.of (zz.pull .k3) hj ej;have hox:∀ x ∈ xs,yL x:=λx hx=>by
    obtain⟨i,hi⟩:=List.getElem?_of_mem hx
    by_cases hin:i ∈ ns
    .exact(bG.of (zz.pull .k3) hin hi).yL
    .obtain⟨p,_,rfl⟩:=List.mem_map.mp (o.dd i x hi hin);exact .inl ⟨_,rfl⟩
   have zy:=k9.mk ny zz;left;refine pk zy (nw rfl) (λt H7 z9=>?_);refine q t (ut RW) (j:Int) [pt RW (wl xs),k9 R y] (m+2+5*(((1+r).toNat:Nat):Int)) H7 nofun (.el .e nofun nofun (λi y hi e=>?_) ej .k1 hox) (z9.toT.sub (by ac_nf));obtain⟨p,hp,rfl⟩:=List.mem_map.mp (o.dd i y e (λz=>by have:=hjm i z;omega));obtain⟨Δ,pp⟩:=hd p hp;exact⟨p.1,p.2,_,rfl,.t (.t pp)⟩
end
section
variable {a b m l s mm:Addr}{at_:Int}{ds:List V}{x:Bx}{cs:List Int}{ws:List Str}
def uk (ro:Ro K R)(hk:1<=k)(s:Sep (boxes R b ns::O) H)(q:∀ t H',Sep (tu t (ns.map v0)::boxes R b ns::O) H'->Q (ut t) H'):aa tab R k (13+tab.fns.length) [ut b] H Q E:=by
 obtain⟨dx,d,hn,s⟩:=gJ s;refine DH (d:=cW) nofun rfl rfl ?_;right;obtain⟨a,hg,hS⟩:=ro.g_NAMES;simp only[hg];rw[<-ro.hK]at hS;right;refine⟨⟨_,hS H⟩,?_⟩;refine uN (xs:=rX.map v4) (nw rfl) (λD ys H=>ys=(ns.map v0).take ys.length/\Sep (pt D (wl ys)::pt b (wp (R.cad 8) dx [("numbers",ut d)])::pt dx (.own b)::pt d (.dK (yj.zip (ns.map v0)))::O) H) ?_ ?_ ?_ ?_
 .intro D ys H _;exact hS H
 .intro D hD;exact⟨rfl,s.new hD⟩
 .rintro D ys x H' hx ⟨e,hs⟩;rw[im]at hx;obtain⟨z,hz,rfl⟩:=mo.mp hx;obtain⟨i,h1,h2⟩:=qr hn hz;right;refine lM (k:=.inr z) (by grind) h2 ?_;have hlt:=(sw.mp h1).1;refine pz.mk (by grind) nofun ⟨?_,?_⟩
  .have e2:(ns.map v0)[ys.length]? =some (v0 i):=by rw[im,h1];rfl
   rw[ci,f8,take_succ,e2]
   conv=>lhs;rw[e]
   rfl
  .exact hs.set rfl
 .rintro D ys H' hl ⟨e,hs⟩;have e2:ys=ns.map v0:=by
   rw[e,hl];rw[take_of_length_le];simp[rX,hn]
  subst e2;right;refine pd hs (by grind) (λp H hs=>?_);right;refine q p H ?_;refine Sep.pull .k1 (eX (dx:=dx) (d:=d) hn ?_);exact hs.sub (by ac_nf)
def yf {p:Addr}{cs ws:List V}(hk:1<=k)(s:Sep (aB (R.cad 23) p cs ws::O) H)(q:∀ l H',Sep (pt l (wl cs)::aB (R.cad 23) p cs ws::O) H'->Q (ut l) H'):aa tab R k (50+tab.fns.length) [ut p] H Q E:=by
 obtain⟨dx,a,b,hs⟩:=a6 s;refine DH (d:=cU) nofun rfl rfl ?_;right;rename_i l H1 hs1;exact q l H1 ((bC (hs1.sub (by ac_nf))).pull .k1)
def si {p:Addr}{cs ws:List V}(hk:1<=k)(s:Sep (aB (R.cad 23) p cs ws::O) H)(q:∀ l H',Sep (pt l (wl ws)::aB (R.cad 23) p cs ws::O) H'->Q (ut l) H'):aa tab R k (51+tab.fns.length) [ut p] H Q E:=by
 obtain⟨dx,a,b,hs⟩:=a6 s;refine DH (d:=bM) nofun rfl rfl ?_;right;rename_i l H1 hs1;exact q l H1 ((bC (hs1.sub (by ac_nf))).pull .k1)
def rg (ro:Ro K R)(hk:2<=k)(z:Sep (eE R m l s b at_ ds::aC R s cs ws::aJ R b x::O) H)
  (q:∀ t t1 l1 H',Sep (pt t (wn [v0 at_,ut t1,ut l1])::pt l1 (wl (cs.map v0))::tu t1 (x.ls.map v0)::eE R m l s b at_ ds::aC R s cs ws::aJ R b x::O) H'->Q (ut t) H'):aa tab R k (30+tab.fns.length) [ut m] H Q E:=by
 refine DH (d:=bD) nofun rfl rfl ?_;obtain⟨dx,z1⟩:=mZ z;right;refine ai iq z .k2 rfl rfl ?_;left;obtain⟨hok,zb⟩:=vo (z.pull (A:=aJ R b x) .k2);refine uk ro nofun zb (λt1 H1 z2'=>?_);have z2:Sep (tu t1 (x.ls.map v0)::eE R m l s b at_ ds::aC R s cs ws::aJ R b x::O) H1:=(ma hok (z2'.pull .k1)).sub (by ac_nf);obtain⟨dx,z3⟩:=mZ (z2.pull .k1);right;refine ai cR z2 .k2 rfl rfl ?_;left;obtain⟨hok2,zs⟩:=fz (z2.pull (A:=aC R s cs ws) .k2);refine yf nofun zs (λl1 H2 z4'=>?_);have z4:Sep (pt l1 (wl (cs.map v0))::tu t1 (x.ls.map v0)::eE R m l s b at_ ds::aC R s cs ws::aJ R b x::O) H2:=(fj hok2 (z4'.pull .k1)).sub (by ac_nf);right;rename_i t H3 z5;exact q t t1 l1 H3 z5
def oY (hk:2<=k)(z:Sep (eE R m l s b at_ ds::aC R s cs ws::O) H)
  (q:∀ l1 H',Sep (pt l1 (wl (ws.map v4))::eE R m l s b at_ ds::aC R s cs ws::O) H'->Q (ut l1) H'):aa tab R k (31+tab.fns.length) [ut m] H Q E:=by
 refine DH (d:=bc) nofun rfl rfl ?_;obtain⟨dx,z1⟩:=mZ z;right;refine ai cR z .k1 rfl rfl ?_;left;obtain⟨hok2,zs⟩:=fz (z.pull (A:=aC R s cs ws) .k1);refine si nofun zs (λl1 H2 z4'=>?_);exact q l1 H2 ((fj hok2 (z4'.pull .k1)).sub (by ac_nf))
end
def xN (h:tyName v H=some t):∃ b,tab.subB.lookup (t,"bool")=some b:=by
 cases aX h
 all_goals exact⟨_,rfl⟩
section
variable {h b m l s mm:Addr}{at_ mh:Int}{ds:List V}{x:Bx}{cs:List Int}{ws:List Str}{v1 v2 v3:V}{t1 t2 t3:String}
def sk (ro:Ro K R)(hk:4<=k)(ht1:tyName v1 H=some t1)(ht2:tyName v2 H=some t2)(ht3:tyName v3 H=some t3)(hno:(ao ws.length v1 v2&&cQ v3)=false)(z:Sep (eE R m l s b at_ ds::aC R s cs ws::O) H)
  (q:∀ x H',Sep (v8 (R.cad 2) [("low",v1),("behind",v2),("word",v3)] x false::eE R m l s b at_ ds::aC R s cs ws::O) H'->E x H'):aa tab R k 32 [ut m,v1,v2,v3] H Q E:=by
 delta bF;obtain⟨dx,z1⟩:=mZ z;right;refine ai cR z .k1 rfl rfl ?_;right;refine aS (vs':=[_,_,_,_]) rfl ?_;obtain⟨hok,z2⟩:=fz (z.pull (A:=aC R s cs ws) .k1);refine pR ro nofun z2 (by rw[ce];exact hok.1) (by rw[<-hok.1];exact hok.2.2.1) ht1 ht2 ht3 (λa b w e1 e2 e3 g1 g2=>?_) (λ_ x H' z3=>?_)
 .subst e3;rw[g1,show cQ (v4 w)=eA w from rfl,g2]at hno;cases hno
 .exact q x H' ((fj hok (z3.pull .k1)).sub (by ac_nf))
def nG {n:Nat}(h1:H a=some (wn xs))(h2:H b=some (wn xs))(h:∀ x ∈ xs,∃ t,tyName x H=some t):eu R.K H (n+2) (ut a) (ut b) true:=
 k6 h1 h2 rfl λj x y e1 e2=>by
  rw[e1]at e2;cases e2;obtain⟨t,ht⟩:=h x (cr e1);exact fL ht
def gQ {is:List Int}:∀ x ∈ is.map v0,∃ t,tyName x H=some t:=λx hx=>by
 obtain⟨i,_,rfl⟩:=List.mem_map.mp hx;exact⟨_,rfl⟩
def qo {is:List Str}:∀ x ∈ is.map v4,∃ t,tyName x H=some t:=λx hx=>by
 obtain⟨i,_,rfl⟩:=List.mem_map.mp hx;exact⟨_,rfl⟩
def wU {A B t t' a1 a1' a2 a2' a3 a3':Addr}{xs ys:List Int}(h1:H B=some (wn [ut t',ut a3']))(h2:H A=some (wn [ut t,ut a3]))(e1:H t'=some (wn [v0 at_,ut a1',ut a2']))(e2:H t=some (wn [v0 at_,ut a1,ut a2]))
  (f1:H a1'=some (wn (xs.map v0))) (f2:H a1=some (wn (xs.map v0))) (g1:H a2'=some (wl (ys.map v0))) (g2:H a2=some (wl (ys.map v0))) (l1:H a3'=some (wl (ws.map v4))) (l2:H a3=some (wl (ws.map v4))):eu R.K H 4 (ut B) (ut A) true:=
 k6 h1 h2 rfl λj x y q1 q2=>by
  match j,q1,q2 with
  |0,q1,q2=>
   cases q1;cases q2;refine k6 e1 e2 rfl λj x y q1 q2=>?_
   match j,q1,q2 with
   |0,q1,q2=>cases q1;cases q2;exact fL (t:="int") rfl
   |1,q1,q2=>cases q1;cases q2;exact nG f1 f2 gQ
   |2,q1,q2=>cases q1;cases q2;exact fk g1 g2 gQ
  |1,q1,q2=>cases q1;cases q2;exact fk l1 l2 qo
def qe {T:Addr}{D:Ends}{E:St->XK}{u3 u4 u7:Option V}(ro:Ro K R)(hk:7<=k)(f1:ay v1=true)(f3:ay v3=true)(ht1:∀ H,tyName v1 H=some t1) (ht3:∀ H,tyName v3 H=some t3) (hno:(ao ws.length v1 v2&&cQ v3)=false) (pT:ae (pt T (wn [v1,v2,v3])) O Δ) (po:ae (jg v2) O Δo)
  (z:Sep (eE R m l s b at_ ds::aC R s cs ws::aJ R b x::O) H) (q:∀ H',Sep (eE R m l s b at_ ds::aC R s cs ws::aJ R b x::O) H'->D.rt (.bl true) H'):
  wB (bI 4 aP.body) ⟨tab,R,aa tab R (k-1),.calm⟩ D E [some (ut h),some (ut m),some (v0 cs.length),u3,u4,some (ut T),none,u7] H:=by
 obtain⟨b1,hb1⟩:=xN (ht1 H);right;refine ai d7 z .e rfl rfl ?_;left;refine fg ro nofun z (λt a1 a2 H1 z1=>?_);clear z;right;refine ai d7 z1 .k3 rfl rfl ?_;left;refine jx nofun (z1.sub (by ac_nf)) (O:=aJ R b x::pt t (wn [v0 at_,ut a1,ut a2])::pt a2 (wl (cs.map v0))::tu a1 (x.ls.map v0)::O) (λa3 H2 z2=>?_);clear z1;right;rename_i A H3 z3;clear z2;have eT:H3 T=some (wn [v1,v2,v3]):=z3.get (.t (.j2 (.j2 (.j2 (.t pT)))));refine ai d7 z3 .k2 rfl rfl ?_;left;refine iN eT (i:=0) rfl ?_;left;refine iN eT (i:=1) rfl ?_;left;refine iN eT (i:=2) rfl ?_;left;obtain⟨t2,ht2⟩:=qA (z3.pull (A:=jg v2) (.t (.j2 (.j2 (.j2 (.t po))))));refine sk ro nofun (ht1 _) ht2 (ht3 _) hno (z3.sub (by ac_nf)) (O:=pt A (wn [ut t,ut a3])::pt a3 (wl (ws.map v4))::aJ R b x::pt t (wn [v0 at_,ut a1,ut a2])::pt a2 (wl (cs.map v0))::tu a1 (x.ls.map v0)::O) (λe H4 z4=>?_);obtain⟨ed,z5⟩:=sN z4;clear z3 z4;left;refine⟨2,_,_,true,by grind,rfl,rfl,?_⟩;right;refine ou z5 rfl z5.at (b:=false) rfl (λp H5 z6=>?_);right;rename_i B H6 z7;clear z5 z6;have z8:=(z7.pull .k1).drop;clear z7;have zB:Sep (pt B (wn [v1,v2,v3])::pt e (.exc (R.cad 2) (some ed) [("low",v1),("behind",v2),("word",v3)] false)::pt ed (.own e)::eE R m l s b at_ ds::aC R s cs ws::pt A (wn [ut t,ut a3])::pt a3 (wl (ws.map v4))::aJ R b x::pt t (wn [v0 at_,ut a1,ut a2])::pt a2 (wl (cs.map v0))::tu a1 (x.ls.map v0)::O) H6:=z8;have pT':ae (pt T (wn [v1,v2,v3])) (pt B (wn [v1,v2,v3])::pt e (.exc (R.cad 2) (some ed) [("low",v1),("behind",v2),("word",v3)] false)::pt ed (.own e)::eE R m l s b at_ ds::aC R s cs ws::pt A (wn [ut t,ut a3])::pt a3 (wl (ws.map v4))::aJ R b x::pt t (wn [v0 at_,ut a1,ut a2])::pt a2 (wl (cs.map v0))::tu a1 (x.ls.map v0)::O) _:=.t (.j2 (.j2 (.j2 (.j2 (.j2 pT)))));have eT6:=zB.get pT';obtain⟨t2',ht2'⟩:=qA (zB.pull (A:=jg v2) (.t (.j2 (.j2 (.j2 (.j2 (.j2 po)))))));refine jZ (nG (R:=R) (n:=0) zB.at eT6 (λy hy=>?_)) (by decide) ((zB.pull pT').pull (A:=pt B (wn [v1,v2,v3])) .k1).ne ?_
 .simp only[lv,not_mem_nil,or_false]at hy;rcases hy with rfl|rfl|rfl
  .exact⟨_,ht1 _⟩
  .exact⟨_,ht2'⟩
  .exact⟨_,ht3 _⟩
 right;refine aT (ht1 _) hb1 ?_;left;refine iN eT6 (i:=0) rfl ?_;left;refine aT (ht1 _) hb1 ?_;left;refine dX rfl rfl ?_;refine cb (by rw[a8 rfl];rfl) ?_;right;have zC:=(zB.drop).sub (Γ':=eE R m l s b at_ ds::aC R s cs ws::aJ R b x::pt e (.exc (R.cad 2) (some ed) [("low",v1),("behind",v2),("word",v3)] false)::pt A (wn [ut t,ut a3])::pt a3 (wl (ws.map v4))::pt t (wn [v0 at_,ut a1,ut a2])::pt a2 (wl (cs.map v0))::tu a1 (x.ls.map v0)::O) (by ac_nf);refine ai d7 zC .e rfl rfl ?_;left;refine⟨⟨_,_,_,zC.get .k3⟩,?_⟩;refine rg ro nofun zC (λt' a1' a2' H7 z9=>?_);clear zB zC;right;refine ai d7 z9 .k3 rfl rfl ?_;left;refine⟨⟨_,_,_,z9.get (.j2 (.j2 (.j2 .e)))⟩,?_⟩;refine oY nofun (z9.sub (by ac_nf)) (O:=aJ R b x::pt t' (wn [v0 at_,ut a1',ut a2'])::pt a2' (wl (cs.map v0))::tu a1' (x.ls.map v0)::pt e (.exc (R.cad 2) (some ed) [("low",v1),("behind",v2),("word",v3)] false)::pt A (wn [ut t,ut a3])::pt a3 (wl (ws.map v4))::pt t (wn [v0 at_,ut a1,ut a2])::pt a2 (wl (cs.map v0))::tu a1 (x.ls.map v0)::O) (λa3' H8 z10=>?_);clear z9;right;rename_i B2 H9 z11;refine ub (wU (R:=R) (t:=t) (t':=t') (a1:=a1) (a1':=a1') (a2:=a2) (a2':=a2') (a3:=a3) (a3':=a3') (at_:=at_) (xs:=x.ls) (ys:=cs) (ws:=ws) (by grind) (by grind) (by grind) (by grind) (by grind) (by grind) (by grind) (by grind) (by grind) (by grind)) (by decide) ((z11.pull (A:=pt A (wn [ut t,ut a3])) (by symm)).pull (A:=pt B2 (wn [ut t',ut a3'])) .k1).ne ?_;exact q H9 (z11.sub (by ac_nf))
end
section
variable {h b m l s mm:Addr}{at_ mh:Int}{ds:List V}{x:Bx}{cs:List Int}{ws:List Str}
def ot (ro:Ro K R)(hk:8<=k)(hm:mh<=1099400000000)(z:Sep (hand h mh::eE R m l s b at_ ds::aC R s cs ws::aJ R b x::O) H)(q:∀ H',Sep (hand h (mh+5)::eE R m l s b at_ ds::aC R s cs ws::aJ R b x::O) H'->Q (.bl true) H'):aa tab R k 73 [ut h,ut m,v0 cs.length] H Q E:=by
 obtain⟨hl,c1,c60,hc⟩:=kQ z .k2;delta aP;walk_at "gd";rename_i low H1 r0 r1 z1 T0 H2 z2 T1 H3 z3 T2 H4 z4 T3 H5 z5 L1 H6 z6 T4 H7 z7 T5 H8 z8 T6 H9 z9 T7 H10 z10 L2 H11 z11 L3 H12 z12 T8 H13 z13;refine aS (vs':=[ut h,v0 0,v0 cs.length]) rfl ?_;refine uP (m:=mh+1) nofun (by decide) nofun (z13.pull (A:=hand h (mh+1)) (by symm)) nofun (λw H14 ho z14=>?_);clear z z1 z2 z3 z4 z5 z6 z7 z8 z9 z10 z11 z12 z13;walk_at "gd";rename_i T9 H15 z15 LA H16 z16 LB H17 z17 r H18 s0 s1 z18;clear z14 z15 z16 z17;obtain⟨big,hb,hbig⟩:∃ big,(10:Int) ^ Int.toNat 59=big/\60<big:=⟨_,rfl,by rw[tm];decide⟩;rw[hb]at z18;have z19:Sep (hand h (mh+5)::_) H18:=ag (n:=mh+5) (z18.pull (A:=hand h _) (by symm)) nofun;obtain⟨v,hv,hmem⟩:=aY (xs:=[ut T0,ut T1,ut T2,ut T3,ut T4,ut T5,ut T6,ut T7,ut T8,ut T9]) s0 (by simpa using s1);have eL:H18 LB=some (wl [ut T0,ut T1,ut T2,ut T3,ut T4,ut T5,ut T6,ut T7,ut T8,ut T9]):=z19.get .k1;refine bE eL hv ?_;have zE:Sep (eE R m l s b at_ ds::aC R s cs ws::aJ R b x::jg w::hand h (mh+5)::pt T9 (wn [v0 0,w,v4 "look"])::pt T8 (wn [.bl true,v0 cs.length,v4 "shut"])::pt T7 (wn [v0 big,v0 big,v4 "open"])::pt T6 (wn [v0 0,v4 "1",v4 "open"])::pt T5 (wn [wf,v0 cs.length,v4 "open"])::pt T4 (wn [v0 low,v0 cs.length,wf])::pt T3 (wn [v0 low,v0 low,v4 "closed"])::pt T2 (wn [v0 (low+1),v0 low,v4 "look"])::pt T1 (wn [v0 (-1),v0 low,v4 "shut"])::pt T0 (wn [v0 low,v0 (cs.length+1),v4 "shut"])::O) H18:=z19.sub (by ac_nf);clear z18 z19;have wi:∀ i j:Int,¬ (0<=i/\i<=j/\j<=ws.length)->∀ v,(ao ws.length (v0 i) (v0 j)&&cQ v)=false:=λi j n v=>by
  have e:ao ws.length (v0 i) (v0 j)=false:=by
   cases e:ao ws.length (v0 i) (v0 j)
   .rfl
   .refine absurd ?_ n;unfold ao at e;simpa[and_assoc] using e
  rw[e]
  rfl
 have flat:∀ (T:Addr) (v1 v2 v3:V) (t1 t2 t3:String) (Δ:List aq),ay v1=true->ay v3=true->(∀ H,tyName v1 H=some t1)->(∀ H,tyName v3 H=some t3)->tyName v2 H18=some t2->t2≠"dict"->(ao ws.length v1 v2&&cQ v3)=false->ae (pt T (wn [v1,v2,v3])) (jg w::hand h (mh+5)::pt T9 (wn [v0 0,w,v4 "look"])::pt T8 (wn [.bl true,v0 cs.length,v4 "shut"])::pt T7 (wn [v0 big,v0 big,v4 "open"])::pt T6 (wn [v0 0,v4 "1",v4 "open"])::pt T5 (wn [wf,v0 cs.length,v4 "open"])::pt T4 (wn [v0 low,v0 cs.length,wf])::pt T3 (wn [v0 low,v0 low,v4 "closed"])::pt T2 (wn [v0 (low+1),v0 low,v4 "look"])::pt T1 (wn [v0 (-1),v0 low,v4 "shut"])::pt T0 (wn [v0 low,v0 (cs.length+1),v4 "shut"])::O) Δ->
   wB (bI 4 aP.body) ⟨tab,R,aa tab R (k-1),.calm⟩ { nx:=λ_ H'=>Q wf H',rt:=Q } (λ_=>E) [some (ut h),some (ut m),some (v0 cs.length),some (v0 low),some (ut L3),some (ut T),none,none] H18:=λT v1 v2 v3 t1 t2 t3 Δ f1 f3 g1 g3 e2 n2 hno p=>
  qe (O:=jg v2::jg w::hand h (mh+5)::pt T9 (wn [v0 0,w,v4 "look"])::pt T8 (wn [.bl true,v0 cs.length,v4 "shut"])::pt T7 (wn [v0 big,v0 big,v4 "open"])::pt T6 (wn [v0 0,v4 "1",v4 "open"])::pt T5 (wn [wf,v0 cs.length,v4 "open"])::pt T4 (wn [v0 low,v0 cs.length,wf])::pt T3 (wn [v0 low,v0 low,v4 "closed"])::pt T2 (wn [v0 (low+1),v0 low,v4 "look"])::pt T1 (wn [v0 (-1),v0 low,v4 "shut"])::pt T0 (wn [v0 low,v0 (cs.length+1),v4 "shut"])::O) ro nofun f1 f3 g1 g3 hno (.t p) .e ((aO e2 n2 zE).sub (by ac_nf)) (λH' z'=>q H' (z'.sub (by ac_nf)))
 simp only[lv,not_mem_nil,or_false]at hmem;rcases hmem with rfl|rfl|rfl|rfl|rfl|rfl|rfl|rfl|rfl|rfl
 .exact flat T0 (v0 low) (v0 (cs.length+1)) (v4 "shut") "int" "int" "str" _ rfl rfl (λ_=>rfl) (λ_=>rfl) rfl (by decide) (wi _ _ nofun _) (by symm)
 .exact flat T1 (v0 (-1)) (v0 low) (v4 "shut") "int" "int" "str" _ rfl rfl (λ_=>rfl) (λ_=>rfl) rfl (by decide) (wi _ _ nofun _) (by symm)
 .exact flat T2 (v0 (low+1)) (v0 low) (v4 "look") "int" "int" "str" _ rfl rfl (λ_=>rfl) (λ_=>rfl) rfl (by decide) (wi _ _ nofun _) (by symm)
 .exact flat T3 (v0 low) (v0 low) (v4 "closed") "int" "int" "str" _ rfl rfl (λ_=>rfl) (λ_=>rfl) rfl (by decide) (Bool.and_false _) (by symm)
 .exact flat T4 (v0 low) (v0 cs.length) wf "int" "int" "NoneType" _ rfl rfl (λ_=>rfl) (λ_=>rfl) rfl (by decide) (Bool.and_false _) (by symm)
 .exact flat T5 wf (v0 cs.length) (v4 "open") "NoneType" "int" "str" _ rfl rfl (λ_=>rfl) (λ_=>rfl) rfl (by decide) rfl (by symm)
 .exact flat T6 (v0 0) (v4 "1") (v4 "open") "int" "str" "str" _ rfl rfl (λ_=>rfl) (λ_=>rfl) rfl (by decide) rfl (by symm)
 .exact flat T7 (v0 big) (v0 big) (v4 "open") "int" "int" "str" _ rfl rfl (λ_=>rfl) (λ_=>rfl) rfl (by decide) (wi _ _ nofun _) (by symm)
 .exact flat T8 (.bl true) (v0 cs.length) (v4 "shut") "bool" "int" "str" _ rfl rfl (λ_=>rfl) (λ_=>rfl) rfl (by decide) rfl (by symm)
 .refine qe (T:=T9) (v2:=w) (t1:="int") (t3:="str") ro nofun rfl rfl (λ_=>rfl) (λ_=>rfl) ?_ (by symm) .e zE (λH' z'=>q H' (z'.sub (by ac_nf)));cases w<;>first|rfl|skip
  exact wi _ _ (by have:=ho _ rfl;omega) _
end
def Bi (h0:0<=r)(h1:r<3):∃ wd:Str,jc [v4 "open",v4 "look",v4 "shut"] r=some (v4 wd)/\eA wd=true:=by
 rcases(by omega:r=0\/r=1\/r=2) with rfl|rfl|rfl
 .exact⟨"open",rfl,by decide+kernel⟩
 .exact⟨"look",rfl,by decide+kernel⟩
 .exact⟨"shut",rfl,by decide+kernel⟩
section
variable {h b m l s LV:Addr}{at_ mh:Int}{ds:List V}{x:Bx}{cs:List Int}{ws:List Str}
def vd (ro:Ro K R)(hk:10<=k)(hm:mh<=1099300000000)(z:Sep (hand h mh::eE R m l s b at_ ds::aC R s cs (ss cs.length "open")::aJ R b x::O) H)
  (q:∀ ws' H',Sep (hand h (mh+48)::eE R m l s b at_ ds::aC R s cs ws'::aJ R b x::O) H'->Q (.bl true) H'):aa tab R k 74 [ut h,ut m,v0 cs.length] H Q E:=by
 obtain⟨hl,c1,c60,hc⟩:=kQ z .k2;delta ff;walk_at "gd";rename_i l1 H1 z1 LV H2 z2;rw[qk,show ss cs.length (v4 "open")=(ss cs.length ("open":Str)).map v4 by rw[map_replicate]]at z2;refine dN (λj U H=>∃ u4 u5 u6 u7 u8 ws,U=[some (ut h),some (ut m),some (v0 cs.length),some (ut LV),u4,u5,u6,u7,u8]/\Sep (pt LV (wl (ws.map v4))::hand h (mh+8*(j:Int))::eE R m l s b at_ ds::aC R s cs ws::aJ R b x::O) H) ⟨_,_,_,_,_,_,rfl,(ag (n:=mh+8*((0:Nat):Int)) (z2.pull (A:=hand h mh) (by symm)) nofun).sub (by ac_nf)⟩ (λj U H hj hI=>?_) (λU H hI=>?_)
 .obtain⟨u4,u5,u6,u7,u8,ws,rfl,z3⟩:=hI;clear z z1 z2;have hlw:=(kQ z3 (a:=s) (cs:=cs) (ws:=ws) .k3).1;walk_at "gd";refine aS (vs':=[ut h,ut m,v0 cs.length]) rfl ?_;refine ot (mh:=mh+8*(j:Int)) (l:=l) (s:=s) (b:=b) (at_:=at_) (ds:=ds) (ws:=ws) (x:=x) (O:=pt LV (wl (ws.map v4))::O) ro nofun nofun (z3.sub (by ac_nf)) (λH4 z4=>?_);clear z3;walk_at "gd";rename_i lo H5 lo0 lo1 z5 n1 H6 n10 n11 z6 L3 H7 z7 r H8 r0 r1 z8;clear z4 z5 z6 z7;obtain⟨wd,e3,hwd⟩:=Bi r0 r1;refine bE (by grind) e3 ?_;right;refine ai (d7 (m:=m)) z8 (by symm) rfl rfl ?_;right;refine aS (vs':=[ut m,v0 lo,v0 (lo+n1),v4 wd]) rfl ?_;refine t8 (l:=l) (s:=s) (b:=b) (at_:=at_) (ds:=ds) (cs:=cs) (ws:=ws) (O:=hand h (mh+8*((j+1:Nat):Int))::pt LV (wl (ws.map v4))::aJ R b x::O) ro nofun lo0 nofun nofun hwd ((ag (n:=mh+8*((j+1:Nat):Int)) (z8.pull (A:=hand h _) (by symm)) nofun).sub (by ac_nf)) (λH9 z9=>?_);clear z8;right;refine wk ?_;right;refine dN (λi U H=>∃ v,U=[some (ut h),some (ut m),some (v0 cs.length),some (ut LV),some (v0 j),some (v0 lo),some (v0 (lo+n1)),some (v4 wd),v]/\Sep (pt LV (wl ((cV wd ws lo.toNat i).map v4))::eE R m l s b at_ ds::aC R s cs (cV wd ws lo.toNat (lo+n1-lo).toNat)::hand h (mh+8*((j+1:Nat):Int))::aJ R b x::O) H) ?_ ?_ ?_
  .have z0:Sep (pt LV (wl (ws.map v4))::eE R m l s b at_ ds::aC R s cs (cV wd ws lo.toNat (lo+n1-lo).toNat)::hand h (mh+8*((j+1:Nat):Int))::aJ R b x::O) H9:=z9.sub (by ac_nf);exact⟨_,by simp only[Int.zero_add];rfl,z0⟩
  .rintro i U H hi ⟨v,rfl,z10⟩;right;refine ql (ys:=(cV wd ws lo.toNat (i+1)).map v4) (j:=(lo+(i:Int)).toNat) z10 .e ?_ ?_ (λH7 z11=>?_)
   .rw[ce,fH];unfold sF;rw[if_pos nofun,if_pos nofun]
   .rw[qS,List.map_set,show(lo+(i:Int)).toNat=lo.toNat+i by omega]
   .exact⟨_,rfl,z11⟩
  .rintro U H ⟨v,rfl,z10⟩;right;refine ai (d7 (m:=m)) z10 (by symm) rfl rfl ?_;left;refine jx nofun (z10.sub (by ac_nf)) (O:=pt LV (wl ((cV wd ws lo.toNat (lo+n1-lo).toNat).map v4))::hand h (mh+8*((j+1:Nat):Int))::aJ R b x::O) (λl9 H10 z12=>?_);clear z10;right;refine jZ (fk (n:=0) (z12.get .e) (z12.get .k3) qo) (by decide) ((z12.pull (A:=pt LV (wl ((cV wd ws lo.toNat (lo+n1-lo).toNat).map v4))) .k3).pull (A:=pt l9 (wl ((cV wd ws lo.toNat (lo+n1-lo).toNat).map v4))) .k1).ne ?_;right;exact⟨_,_,_,_,_,_,rfl,z12.sub (by ac_nf)⟩
 .obtain⟨u4,u5,u6,u7,u8,ws,rfl,z3⟩:=hI;right;exact q ws H ((ag (n:=mh+48) (z3.pull (A:=hand h _) .k1) nofun).sub (by ac_nf))
end
def Sep.mv:∀ {L P Δ O:List aq}{H:Hp},Sep (P++(Δ++(L++O))) H->Sep (P++(L++(Δ++O))) H
 | [],_,_,_,_,z=>z
 |A::L,P,Δ,O,H,z=>(Sep.mv (L:=L) (P:=A::P) (Δ:=Δ) (O:=O) (z.pull (bw (bw .e)))).push (bw .e)
section
variable {a h C d st bx DL:Addr}{n i:Int}{x:Bx}{cs:List Int}{ws:List Str}{S:List (Addr×Rw)}{D:Ends}{E:St->XK}{u7 u8 u9 u10 u11 u12 u13 u14 u15:Option V}{v w:V}
def qg (hd:∀ p ∈ S,∃ Δ,ae (ng R p.1 p.2) O Δ):ug R O (S.map bA):=λv hv=>by
 obtain⟨p,hp,rfl⟩:=List.mem_map.mp hv;obtain⟨Δ,pp⟩:=hd p hp;exact⟨p.1,p.2,_,rfl,pp⟩
def cN.app:∀ {L O:List aq},cN R O v i->cN R (L++O) v i
 | [],_,h=>h
 |_::L,_,h=>(cN.app (L:=L) h).more
def A2 (ro:Ro K R)(hk:12<=k)(hn:n<=1099200000000)(n0:1<=S.length)(n24:S.length<=24)(hd:∀ p ∈ S,∃ Δ,ae (ng R p.1 p.2) O Δ) (z:Sep (hand h n::pt DL (wl (S.map bA))::aC R st cs ws::aJ R bx x::O) H)
  (q:∀ Y u9 u10 u11 u12 u13 u14 H',Sep (hand h (n+40)::pt DL (wl (S.map bA))::aC R st cs ws::aJ R bx x::(Y++O)) H'->D.nx [some (ut a),some (ut h),some (ut C),some (ut d),some (ut st),some (ut bx),some (ut DL),u7,u8,u9,u10,u11,u12,u13,u14,u15] H'):
  wB (rm (bI 7 jk.body)) ⟨tab,R,aa tab R (k-1),.calm⟩ D E [some (ut a),some (ut h),some (ut C),some (ut d),some (ut st),some (ut bx),some (ut DL),u7,u8,u9,u10,u11,u12,u13,u14,u15] H:=by
 right;refine wK ro nofun nofun n0 n24 hd z (λt v i X n1 H1 hn1 hb z1=>?_);clear z;have z2:Sep ([tu t [v,v0 i]]++([hand h n1,pt DL (wl (S.map bA)),aC R st cs ws,aJ R bx x]++(X++O))) H1:=Sep.mv (P:=[_]) (Δ:=X) (L:=[_,_,_,_]) (O:=O) z1;have hd2:∀ p ∈ S,∃ Δ,ae (ng R p.1 p.2) (X++O) Δ:=λp hp=>let⟨_,pp⟩:=hd p hp;⟨_,bw pp⟩
 have q2:∀ Y u9 u10 u11 u12 u13 u14 H',Sep (hand h (n+40)::pt DL (wl (S.map bA))::aC R st cs ws::aJ R bx x::(Y++(X++O))) H'->D.nx [some (ut a),some (ut h),some (ut C),some (ut d),some (ut st),some (ut bx),some (ut DL),u7,u8,u9,u10,u11,u12,u13,u14,u15] H':=λY u9 u10 u11 u12 u13 u14 H' zz=>q (Y++X) u9 u10 u11 u12 u13 u14 H' (by rw[jp];exact zz)
 clear q z1 hd;generalize X++O=Γ1 at*;refine⟨t,_,rfl,.inl (ba.of z2.atT),rfl,?_⟩;have z3:Sep (hand h n1::pt DL (wl (S.map bA))::aC R st cs ws::aJ R bx x::Γ1) H1:=z2.drop;clear z2;walk_at "gd";rename_i r H2 r0 r1 z4 l2 H3 z5 g H4 g0 g1 z6;have hlen:(S.map bA).length=S.length:=ce ..;obtain⟨v',e2,G,rfl,G0,G1⟩:=d5 (xs:=[v0 0,v0 ((S.map bA).length:Int),v0 r]) (P:=inR 0 S.length) g0 (by simpa using g1) (Cc (.mk (by decide) nofun) (.mk nofun nofun) (.mk nofun nofun));refine bE (by grind) e2 ?_;have z7:Sep (hand h (n1+2)::pt DL (wl (S.map bA))::aC R st cs ws::aJ R bx x::Γ1) H4:=(ag (n:=n1+2) z6 nofun).sub (by ac_nf);clear z3 z4 z5 z6;walk_at "gd";refine aS (vs':=[ut h,v0 0,v0 (S.length:Int)]) (by rw[hlen];rfl) ?_;refine uP (m:=n1+2) nofun (by decide) nofun z7 nofun (λw H5 ho z8=>?_);have z9:Sep (jg w::hand h (n+40)::pt DL (wl (S.map bA))::aC R st cs ws::aJ R bx x::Γ1) H5:=(ag (n:=n+40) (z8.pull .k1) nofun).pull .k1;clear z7 z8;right;refine rZ ro nofun hb.more.more.more.more.more z9 (λc X2 H6 cm hb2 z10=>?_);clear z9;right;rename_i LL H7 z11;clear z10 hb2;have z12:Sep ([pt LL (wl [v0 G,w])]++([jg w,hand h (n+40),pt DL (wl (S.map bA)),aC R st cs ws,aJ R bx x]++(X2++Γ1))) H7:=Sep.mv (P:=[_]) (Δ:=X2) (L:=[_,_,_,_,_]) (O:=Γ1) z11;have cm2:se R (jg w::hand h (n+40)::pt DL (wl (S.map bA))::aC R st cs ws::aJ R bx x::(X2++Γ1)) v c:=λH Q s q=>cm H Q (Sep.mv (P:=[]) (Δ:=[_,_,_,_,_]) (L:=X2) (O:=Γ1) s) q
 have hb2:cN R (X2++Γ1) v i:=hb.app;have hd3:∀ p ∈ S,∃ Δ,ae (ng R p.1 p.2) (X2++Γ1) Δ:=λp hp=>let⟨_,pp⟩:=hd2 p hp;⟨_,bw pp⟩
 have q3:∀ Y u9 u10 u11 u12 u13 u14 H',Sep (hand h (n+40)::pt DL (wl (S.map bA))::aC R st cs ws::aJ R bx x::(Y++(X2++Γ1))) H'->D.nx [some (ut a),some (ut h),some (ut C),some (ut d),some (ut st),some (ut bx),some (ut DL),u7,u8,u9,u10,u11,u12,u13,u14,u15] H':=λY u9 u10 u11 u12 u13 u14 H' zz=>q2 (Y++X2) u9 u10 u11 u12 u13 u14 H' (by rw[jp];exact zz)
 clear q2 z11 hd2 hb cm;generalize X2++Γ1=Γ2 at*;have z13:Sep (pt LL (wl [v0 G,w])::jg w::hand h (n+40)::pt DL (wl (S.map bA))::aC R st cs ws::aJ R bx x::Γ2) H7:=z12;clear z12;refine qw (xs:=[v0 G,w]) (λj U H=>∃ u14,U=[some (ut a),some (ut h),some (ut C),some (ut d),some (ut st),some (ut bx),some (ut DL),u7,u8,some v,some (v0 i),some (v0 G),some w,some c,u14,u15]/\Sep (pt LL (wl [v0 G,w])::jg w::hand h (n+40)::pt DL (wl (S.map bA))::aC R st cs ws::aJ R bx x::Γ2) H) ⟨_,rfl,z13⟩ (λj U H hI=>?_) (λj at_ U H hj hI=>?_) (λU H hI=>?_)
 .obtain⟨u14,rfl,z14⟩:=hI;exact aN.of z14.at
 .obtain⟨u14,rfl,z14⟩:=hI;clear z13;right;refine aS (vs':=[v,ut st,ut bx,at_]) rfl ?_;refine lu (i:=i) ro nofun hb2.more.more.more.more.more.more z14 (λt1 H8 z15=>?_);right;rename_i T H9 z16;refine jP (n:="rows") (u:=v0 i) nofun (aO (t:="int") rfl (by decide) z16.toT) .k2 .k1 .e ?_;right;refine cm2.more.more.more H9 _ z16 ?_;right;exact⟨_,rfl,z16.drop.drop⟩
 .obtain⟨u14,rfl,z14⟩:=hI;clear z13;right;rename_i L1 H8 z15;refine aS (vs':=[ut L1,ut st,ut bx,w]) rfl ?_;refine kA ro nofun n0 n24 (qg (λp hp=>let⟨_,pp⟩:=hd3 p hp;⟨_,.j2 (.j2 (.j2 pp))⟩)) .k1 ho z15 (λt1 H9 z16=>?_);right;rename_i T H10 z17;refine jP (n:="place") (u:=w) nofun z17.toT .k1 .e (.t (.j2 .k1)) ?_;right;rename_i L2 H11 z18;refine aS (vs':=[ut L2,ut st,ut bx,v0 G]) rfl ?_;refine mP (i:=G) (O:=pt T (wn [v4 "place",w])::tu t1 [v4 "place",w]::pt L1 (wl (S.map bA))::pt LL (wl [v0 G,w])::jg w::hand h (n+40)::pt DL (wl (S.map bA))::Γ2) ro nofun n0 n24 G0 G1 (qg (λp hp=>let⟨_,pp⟩:=hd3 p hp;⟨_,.t (.j2 (.j2 (.j2 pp)))⟩)) (z18.sub (by ac_nf)) (λt2 H12 z19=>?_);right;rename_i T2 H13 z20;refine jP (n:="made") (u:=v0 G) nofun (aO (t:="int") rfl (by decide) z20.toT) .k2 .k1 .e ?_;right;have z21:Sep (hand h (n+40)::pt DL (wl (S.map bA))::aC R st cs ws::aJ R bx x::Γ2) H13:=z20.sub (by ac_nf);exact q3 [] _ _ _ _ _ _ H13 z21
end
section
variable {a h C d st bx DL:Addr}{n:Int}{x:Bx}{cs:List Int}{S:List (Addr×Rw)}{D:Ends}{E:St->XK}{u7 u8 u9 u10 u11 u12 u13 u14 u15:Option V}
def qp {t t' t1 t1' l':Addr}{xs ys:List Int}(e1:H t=some (wn [v0 i,ut t1,ut l]))(e2:H t'=some (wn [v0 i,ut t1',ut l']))(f1:H t1=some (wn (xs.map v0)))(f2:H t1'=some (wn (xs.map v0)))(g1:H l=some (wl (ys.map v0)))(g2:H l'=some (wl (ys.map v0))):eu R.K H 3 (ut t) (ut t') true:=
 k6 e1 e2 rfl λj x y q1 q2=>by
  match j,q1,q2 with
  |0,q1,q2=>cases q1;cases q2;exact fL (t:="int") rfl
  |1,q1,q2=>cases q1;cases q2;exact nG f1 f2 gQ
  |2,q1,q2=>cases q1;cases q2;exact fk g1 g2 gQ
def CY (ro:Ro K R)(hk:12<=k)(hn:n<=1099200000000)(n0:1<=S.length)(n24:S.length<=24)(hd:∀ p ∈ S,∃ Δ,ae (ng R p.1 p.2) O Δ) (z:Sep (hand h n::pt DL (wl (S.map bA))::aC R st cs (ss cs.length "open")::aJ R bx x::pt C (wl (cs.map v0))::O) H) (q:∀ H',D.rt (.bl true) H'):
  wB (bI 8 jk.body) ⟨tab,R,aa tab R (k-1),.calm⟩ D E [some (ut a),some (ut h),some (ut C),some (ut d),some (ut st),some (ut bx),some (ut DL),u7,u8,u9,u10,u11,u12,u13,u14,u15] H:=by
 right;intro m dx g1 g2 g3;refine jN (at_:=0) ro nofun (by rw[ce];exact n0) (by rw[ce];exact n24) (by decide) nofun .k1 .k2 .k3 (λv hv=>?_) (d4 z g1 g2 g3) (λl2 s2 b2 H2 z2=>⟨rfl,?_⟩)
 .obtain⟨p,hp,rfl⟩:=List.mem_map.mp hv;obtain⟨Δ,pp⟩:=hd p hp;exact⟨p.1,p.2,_,rfl,.j2 (.j2 (.t pp))⟩
 right;refine ai d7 z2 .e rfl rfl ?_;left;refine fg ro nofun z2 (λt t1 l1 H3 z3=>?_);right;refine ai iq z3 (by symm) rfl rfl ?_;left;refine kC ro nofun z3 (by symm) (λt2 H4 z4=>?_);right;rename_i T H5 z5;refine jZ (qp (R:=R) (t1:=t1) (t1':=t2) (l:=l1) (l':=C) (i:=0) (xs:=x.ls) (ys:=cs) (by grind) (by grind) (by grind) (by grind) (by grind) (by grind)) (by decide) ((z5.pull (A:=pt T (wn [v0 0,ut t2,ut C])) (by symm)).pull (A:=pt t (wn [v0 0,ut t1,ut l1])) (by symm)).ne ?_;right;refine aS (vs':=[ut h,ut m,v0 cs.length]) (by rw[ce];rfl) ?_;refine vd (mh:=n) (l:=l2) (s:=s2) (b:=b2) (at_:=0) (ds:=S.map bA) (x:=x) (O:=aJ R bx x::pt C (wl (cs.map v0))::O) ro nofun nofun (z5.sub (by ac_nf)) (λws' H6 z6=>?_);right;clear z z2 z3 z4 z5;refine ai d7 z6 .k1 rfl rfl ?_;left;refine fg (O:=aJ R bx x::pt C (wl (cs.map v0))::O) ro nofun (z6.sub (by ac_nf)) (λt t1 l1 H3 z3=>?_);right;refine ai iq z3 (A:=aJ R bx x) (by symm) rfl rfl ?_;left;refine kC (x:=x) ro nofun z3 (by symm) (λt2 H4 z4=>?_);right;rename_i T H5 z5;refine ub (qp (R:=R) (t1:=t1) (t1':=t2) (l:=l1) (l':=C) (i:=0) (xs:=x.ls) (ys:=cs) (by grind) (by grind) (by grind) (by grind) (by grind) (by grind)) (by decide) ((z5.pull (A:=pt T (wn [v0 0,ut t2,ut C])) (by symm)).pull (A:=pt t (wn [v0 0,ut t1,ut l1])) (by symm)).ne ?_;exact q _
def CN (ro:Ro K R)(hk:12<=k)(hn:n<=1099100000000)(n0:1<=S.length)(n24:S.length<=24)(z:Sep (hand h n::pt DL (wl (S.map bA))::aC R st cs (ss cs.length "open")::aJ R bx x::pt C (wl (cs.map v0))::(S.reverse.map (vR R)++O)) H) (q:∀ H',D.rt (.bl true) H'):
  wB (bI 7 jk.body) ⟨tab,R,aa tab R (k-1),.calm⟩ D E [some (ut a),some (ut h),some (ut C),some (ut d),some (ut st),some (ut bx),some (ut DL),u7,u8,u9,u10,u11,u12,u13,u14,u15] H:=by
 have hd:∀ p ∈ S,∃ Δ,ae (ng R p.1 p.2) (pt C (wl (cs.map v0))::(S.reverse.map (vR R)++O)) Δ:=λp hp=>by
  obtain⟨Δ,pp⟩:=iH (f:=vR R) (x:=p) (l:=S.reverse) (by simpa using hp);exact⟨_,.t (pp O)⟩
 have z0:Sep (hand h n::pt DL (wl (S.map bA))::aC R st cs (ss cs.length "open")::aJ R bx x::([]++(pt C (wl (cs.map v0))::(S.reverse.map (vR R)++O)))) H:=z;clear z;obtain⟨GG,hG⟩:∃ GG,pt C (wl (cs.map v0))::(S.reverse.map (vR R)++O)=GG:=⟨_,rfl⟩;rw[hG]at z0 hd;right;refine dN (n:=6) (λj U H=>∃ Y u8 u9 u10 u11 u12 u13 u14 u15,U=[some (ut a),some (ut h),some (ut C),some (ut d),some (ut st),some (ut bx),some (ut DL),u7,u8,u9,u10,u11,u12,u13,u14,u15]/\Sep (hand h (n+40*(j:Int))::pt DL (wl (S.map bA))::aC R st cs (ss cs.length "open")::aJ R bx x::(Y++GG)) H) ⟨[],_,_,_,_,_,_,_,_,rfl,ag (n:=n+40*((0:Nat):Int)) z0 nofun⟩ (λj U H hj hI=>?_) (λU H hI=>?_)
 .obtain⟨Y,u8,u9,u10,u11,u12,u13,u14,u15,rfl,z1⟩:=hI;refine A2 (k:=k) (n:=n+40*(j:Int)) (O:=Y++GG) ro hk nofun n0 n24 (λp hp=>let⟨_,pp⟩:=hd p hp;⟨_,bw pp⟩) z1 (λY2 v9 v10 v11 v12 v13 v14 H' z2=>?_);exact⟨Y2++Y,_,_,_,_,_,_,_,_,rfl,ag (n:=n+40*((j+1:Nat):Int)) (by rw[jp];exact z2) nofun⟩
 .obtain⟨Y,u8,u9,u10,u11,u12,u13,u14,u15,rfl,z1⟩:=hI;subst hG;refine CY (k:=k) (x:=x) (cs:=cs) (n:=n+40*((6:Nat):Int)) (O:=Y++(S.reverse.map (vR R)++O)) ro hk nofun n0 n24 (λp hp=>?_) ?_ q
  .obtain⟨Δ,pp⟩:=iH (f:=vR R) (x:=p) (l:=S.reverse) (by simpa using hp);exact⟨_,bw (pp O)⟩
  .exact Sep.mv (P:=[_,_,_,_]) (L:=[_]) (Δ:=Y) (O:=S.reverse.map (vR R)++O) z1
end
def Ab (ro:Ro K R)(hk:12<=k):∀ vs H Q E,gr K 63 vs H Q E->aa tab R k 75 vs H Q E:=by
 rintro vs H Q E ⟨a,is,rfl,hS,h63,hQ⟩;delta jk;right;rw[<-ro.hK]at hS;refine Ap nofun Sep.nil hS h63 (λh H1 hs1=>?_);right;refine yo (O:=[]) (m:=0) nofun hs1 nofun (by decide) (by decide) (λC cs H7 l0 l1 hc hs7=>?_);right;refine Aj (O:=[]) (m:=410) nofun (ag (hs7.sub (by ac_nf)) nofun) nofun l0 nofun hc (λd x H9 hx hs9=>?_);clear hs1 hs7;right;intro st dx g1 g2 g3;refine pL ro nofun l0 nofun hc (d4 hs9 g1 g2 g3) (by symm) (λH2 z2=>⟨rfl,?_⟩);clear hs9;obtain⟨xh,xt,xl,xw,xs,xm⟩:=x;walk_at "wd";intro b dx2 g1 g2 g3;refine t5 ro nofun hx (d4 z2 g1 g2 g3) (λH4 z4=>⟨rfl,?_⟩);generalize (⟨xh,xt,xl,xw,xs,xm⟩:Bx)=x at hx z4;have z4:Sep (hand h 450::aC R st cs (ss cs.length "open")::aJ R b x::pt C (wl (cs.map v0))::[]) H4:=(ag (n:=450) (z4.pull (A:=hand h _) (by symm)) nofun).sub (by ac_nf);clear z2;walk_at "gd";rename_i DL H5 z5 r1 H6 r10 r11 z6 RL H7 z7 r2 H8 r20 r21 z8;obtain⟨v,e2,M,rfl,M0,M1⟩:=d5 (xs:=[v0 1,v0 24,v0 (1+r1)]) (P:=inR 1 24) (r:=r2) r20 (by simpa using r21) (Cc (.mk (by decide) (by decide)) (.mk (by decide) (by decide)) (.mk nofun nofun));refine bE (by grind) e2 ?_;right;obtain⟨N,rfl⟩:∃ N:Nat,M=(N:Int):=⟨M.toNat,by omega⟩;have z9:Sep (pt DL (wl [])::hand h 460::aC R st cs (ss cs.length "open")::aJ R b x::pt C (wl (cs.map v0))::[]) H8:=(ag (n:=460) (z8.pull (A:=hand h _) (by symm)) nofun).sub (by ac_nf);clear z4 z5 z6 z7 z8;refine dN (λj U H=>∃ (u7:Option V) (S:List (Addr×Rw)),U=[some (ut a),some (ut h),some (ut C),some (ut d),some (ut st),some (ut b),some (ut DL),u7,none,none,none,none,none,none,none,none]/\S.length=j/\Sep (pt DL (wl (S.map bA))::hand h (460+10*(j:Int))::aC R st cs (ss cs.length "open")::aJ R b x::pt C (wl (cs.map v0))::(S.reverse.map (vR R)++[])) H) ⟨_,[],rfl,rfl,by
  have z10:=(ag (n:=460+10*((0:Nat):Int)) (z9.pull .k1) nofun).pull .k1;exact z10⟩ (λj U H hj hI=>?_) (λU H hI=>?_)
 .obtain⟨u7,S,rfl,hl,z1⟩:=hI;clear z9;right;refine⟨_,_,rfl,z1.at,?_⟩;right;rw[ce];refine xy nofun (z1.pull .k1) nofun nofun nofun (λt r H7 ok z2=>?_);right;refine vt r ro nofun ok z2 (λdd H8 z3=>?_);right;have z3':=z3.pull (A:=pt DL (wl (S.map bA))) (by symm);refine⟨_,z3'.at,?_⟩;refine uW z3' .e (by rw[ce];omega) (λH9 z4=>?_);right;have hs:(S.map bA++[ut dd])=(S++[(dd,r)]).map bA:=by rw[dL];rfl
  rw[hs]at z4;refine⟨_,S++[(dd,r)],rfl,by rw[ci,f8,hl],?_⟩;rw[List.reverse_append];show Sep (pt DL _::hand h _::aC R st cs _::aJ R b x::pt C _::ng R dd r::(S.reverse.map (vR R)++[])) _;exact(ag (n:=460+10*((j+1:Nat):Int)) (z4.pull (A:=hand h _) (by symm)) nofun).sub (by ac_nf)
 .obtain⟨u7,S,rfl,hl,z1⟩:=hI;exact CN (k:=k) (n:=460+10*(N:Int)) (O:=[]) ro hk nofun nofun nofun (z1.pull .k1) hQ
def uI (ro:Ro K R):∀ vs H Q E,gr K 63 vs H Q E->aa tab R 12 75 vs H Q E:=Ab ro (pi _)
end
def walk {l:W.OpenLaw}{q:Program}{loose:List Str}{XP:(Str->Option Value)->Heap->Prop}{YP:World->Heap->Prop}{d:DefRec}{K:Params->W.Frag}(hn:l.most=some 63)(hdf:d.params.defaults=[])
    (hY:∀ (w:World) (h:Heap),YP w h->(K w.params).In h)
    (F:∀ (w:World) (mg:GF) (fa:Addr) (h:Heap),(K w.params).In h->h.Ns mainGlobals mg->mg d.name=some (.ref fa)->
      ∃ fd:FuncData,(∀ (s:Shared) (u:Value),BindsTo s fd ⟨[u],[]⟩ [("_law_script",u)])/\∀ base:Heap,(K w.params).In base->base.Ns mainGlobals mg->cE true l.prog w (K w.params) mg base (t7 l.prog w) 24 fa fd ["_law_script"] (gr (K w.params) 63)):
    W.WalkO q loose XP YP l.row.toRowW d [] (λf vs=>PySem.call f vs):=
  L2.wX (n:=63) (k:=24) (x:="_law_script") (CX:=λw=>t7 l.prog w) (sp:=λw=>gr (K w.params) 63) hn (by decide) hdf ⟨by decide,by decide⟩ hY F (λ_ _ a ns hl _ hS=>⟨a,ns,rfl,hS,hl,λ_=>rfl⟩) λ_ _ _ _ _ z=>vF z
abbrev FE:List (Str×V):=[("BOUND",.int 1000000000),("MOST_ROWS",.int 24),("MOST_HOPPED",.int 24),("MOST_CELLS",.int 60),("NAMES",.ref 182),("LEAVES",.ref 753)]
def F4 (p:Params):L3.yI (K0 p) tab Fh FQ FE=true:=by kernel_rfl
def F7 (p:Params):L3.jb (K0 p) tab Fh 0 tab.fns=true:=by kernel_rfl
end My
open PySem PySem.W PyProof.Rows
set_option maxRecDepth 100000 in
set_option maxHeartbeats 0 in
theorem PySem.Challenge.cw_haulbell_k42_no_machines_holds : PySem.Challenge.rw_haulbell_k42_no_machines.Holds := by
  refine holds_law My.DF fun said=>?_
  refine W.holds_open (loose:=My.tZ) (N:=16666)
    (q:=My.m8 My.pr)
    (Yf:=fun s=>My.D6.map s.heap.get?)
    (Ya:=fun w=>(My.K0 w.params).map fun p=>some p.2)
    (Xt:=fun s=>xlAt (My.m8 My.pr) [] s&&recOk PySem.Challenge.rw_haulbell_k42_no_machines.row.records s)
    (XP:=XL (My.m8 My.pr) [])
    (YP:=InK My.K0) My.DT
    (InK.of (as:=My.D6) fun _=>by kernel_rfl) InK.keeps
    (fun s e=>xl_of s (Bool.and_eq_true_iff.mp e).1)
    XL.keeps (by rfl) (by rfl) (by rfl)
    (fun s e=>recFacts_of (Bool.and_eq_true_iff.mp e).2)
    (by rfl) (by assumption) (by decide+kernel)
    ⟨rfl,rfl,rfl,rfl,rfl,by decide+kernel⟩ ?hw ?hc
  case hw=>w_witness2
  refine My.walk (l:=PySem.Challenge.rw_haulbell_k42_no_machines) rfl rfl (fun w h Y=>Y) ?F
  case F=>
    intro w mg fa h KX G hmg;exact L3.xX KX G hmg (T:=My.tab) (fs:=My.Fh) (cs:=My.FQ) (gs:=My.FE) (d:=My.jk) (fl:=75) (k:=12) (My.F4 _) (My.F7 _) (by kernel_rfl) rfl rfl rfl (My.uI ⟨rfl,by kernel_rfl,by kernel_rfl,by kernel_rfl,by kernel_rfl,⟨182,by kernel_rfl,L3.uQ (by kernel_rfl)⟩,⟨753,by kernel_rfl,L3.uQ (by kernel_rfl)⟩,by kernel_rfl⟩)
