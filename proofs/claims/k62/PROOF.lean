import PyProof.Rows.All
import Wide.All
import OpenK.AllK
import Wide.FinOn
import PySem.Challenge.RW_haulbell_k62_laid_flat
import Lean
import PyProof.EqAt
import PyProof.EqKinds
import PyProof.TupleCall
import PyProof.EnumStmt
import PyProof.NeKinds
import PyProof.ExcAttrAll.ValueError
import PyProof.ExcInit
import PyProof.StationsW
import PyProof.NsDelKeeps
import PyProof.InstStoreFacts
import PyProof.ZipIter
import PyProof.IsiBase
import PyProof.AttrMiss
import KE.KDictOf
import KE.KDictList
import PyProof.InstEq
import PyProof.Rows.Range3
import PyProof.EnumMake
import PyProof.StrWalks
import PyProof.DictWalks
import PyProof.Rows.StrWeight2
import PyProof.StrCalls2
import PyProof.Rows.StrFacts2
import PyProof.StrOps2
import KE.LcSums
open PySem.W renaming behindTheImports→ac
open PySem renaming wpAny_bind→ad,wpAny_pure→am,wpAny_field→ap,wpAny_holding→bd,wpAny_truthy_bool→bi,starEach→bm,sizeLine→bn,wpAny_Call_Name_kw→bv
open List renaming length_map→ce,length_append→ci,mem_of_getElem?→cr,length_take→db,mem_cons_of_mem→dl,map_append→dL,length_singleton→f8,size_toArray→ge,mem_append_right→ii,getElem?_map→io,length_drop→jp,append_assoc→le,getElem?_eq_getElem→lf,mem_cons_self→li,mem_cons→lv
open Bool renaming and_eq_true→lw
open Option renaming map_eq_some_iff→mo
open Nat renaming lt_of_lt_of_le→nl,le_of_ble_eq_true→nw,ne_of_lt→pc,le_refl→pi
open Int renaming toNat_natCast→re
open List renaming replicate→sn,getElem?_eq_some_iff→ss
open PySem.Heap renaming get?_push_of_some→sw,lt_size→sK,get?_push_size→tz
set_option linter.all false
set_option maxRecDepth 100000
set_option Elab.async false
set_option compiler.extract_closed false
theorem My.kleA {a b k:Nat}(h:a<=k)(e:Nat.ble (b+1) a=true):b<=k-1:=Nat.le_sub_one_of_lt (nl (nw e) h)
theorem My.kleB {a b k:Nat}(h:a<=k)(e:Nat.ble b a=true):b<=k:=Nat.le_trans (nw e) h
set_option hygiene false
local macro_rules| `(tactic|sleep $n:num)=>`(tactic|((conv at h=>lhs;whnf);iterate $n (split at h;rotate_left;cases h)))
set_option hygiene true
local macro_rules|`(command|abbrev $i:declId $s:optDeclSig $v:declVal)=>`(command|noncomputable def $i:declId $s:optDeclSig $v:declVal)
local macro_rules|`(command|def $i:declId $b:bracketedBinder* :$t $v:declVal)=>`(command|theorem $i:declId $b:bracketedBinder* :$t $v:declVal)
local macro_rules|`(nofun)=>`(by first|exact My.kleA (by assumption) (by rfl)|exact My.kleB (by assumption) (by rfl)|lia|omega)
local macro_rules|`(tactic|omega)=>`(tactic|lia)
noncomputable abbrev My.pr:PySem.Program:=PySem.Challenge.rw_haulbell_k62_laid_flat.row.prog
open PySem PySem.W in
set_option maxHeartbeats 0 in
def My.CH:PySem.Challenge.rw_haulbell_k62_laid_flat.wellSaid=true:=by
  rewrite [Fast.te9446332074065402090]
  kernel_rfl
namespace L2
open PySem PySem.Spec
abbrev inClass (s:Stmt)(j:Nat):Stmt:=match s with
  | .ClassDef _ _ _ body _ _ _ _ _ _ _=>body.getD j (.Pass ⟨0,0,0,0⟩)
  |_=>.Pass ⟨0,0,0,0⟩
abbrev ph (s:Stmt):Arguments:=match s with
  | .FunctionDef _ a _ _ _ _ _ _ _ _=>a
  |_=>{ posonlyargs:=[],args:=[],vararg:=none,kwonlyargs:=[],kw_defaults:=[],kwarg:=none,defaults:=[] }
abbrev pE (s:Stmt):List Stmt:=match s with
  | .FunctionDef _ _ b _ _ _ _ _ _ _=>b
  |_=>[]
abbrev mn (s:Stmt):Scope:=match s with
  | .FunctionDef _ _ _ _ _ _ sc _ _ _=>sc
  |_=>{ kind:=.function,names:=[],isGenerator:=false,isCoroutine:=false }
end L2
namespace My
open PySem L2 PySem.W
abbrev top (i:Nat):Stmt:=PySem.Challenge.pw_haulbell_k62_laid_flat.main.body.getD i (.Pass ⟨0,0,0,0⟩)
abbrev tq (i j:Nat):Stmt:=inClass (top i) j
/-- the top's run on a tree -/
abbrev jf (tb:String->Option Builtin)(p:Program)(w:World)(m:Nat)(ann:Option Value):Nat->SharedT->Thread->Option SharedT
  |0,_,_=>none
  |n+1,s,t=>match through t with
    |true=>some s
    |false=>match stepOk m ann t with
      |false=>none
      |true=>match stepT (denote tb) p w s t with
        |some r=>jf tb p w m ann n r.1 r.2
        |none=>none
def pT {tb:String->Option Builtin}{p:Program}{w:World}{m:Nat}{ann:Option Value}:∀ {n:Nat}{s s':SharedT}{t:Thread},jf tb p w m ann n s t=some s'->topRun tb p w m ann n s.abs t=some s'.abs
  |0,_,_,_,h=>by cases h
  |n+1,s,s',t,h=>by
    unfold jf at h;unfold topRun;cases a:through t
    · rw[a]at h;dsimp only at h⊢
      cases b:stepOk m ann t
      · rw[b]at h;cases h
      · rw[b]at h;dsimp only at h⊢
        cases c:stepT (denote tb) p w s t with
        |none=>rw[c]at h;cases h
        |some r=>rw[c]at h;rw[stepT_spec c];exact pT h
    · rw[a]at h;cases h;rfl
abbrev B8:Nat->BT->List Obj->BT
  |_,t,[]=>t
  |n,t,o::os=>B8 (n+1) (t.ins n o) os
abbrev vI (P:Params):BT:=B8 0 .nil (boot_heap P).objs.toList
abbrev DV (P:Params)(os:OsState):SharedT:=⟨vI P,11,(boot_heap P).life,Array.mk [],boot_drawn,boot_toks,os⟩
def rN {p q:Program}{loose:List Str}{Xt:Shared->Bool}{α:Type}{Yf:Shared->α}{Ya:World->α}{N:Nat}(e:opening p=plainProg p.main.scope.names)(hN:Nat.ble 600 N=true)(f:∀ s,fenceModules? p s=some s)
    (h0:∀ P,absHeap (vI P) 11 (boot_heap P).life=boot_heap P) (h1:∀ P,((boot_heap P).isNs mainGlobals,(boot_heap P).objs.size,(boot_heap P).nsMap mainGlobals "__annotations__")=(true,11,some (.ref 6)))
    (run:∀ (w:World) (os:OsState),(jf treeTable p w 11 (some (.ref 6)) N (DV w.params os) (topStub p)).map (λs=>(staticsOk (importedModules p.main.body) (boot_heap w.params) s.abs.heap&&namesBound p s.abs.heap&&gensDone s.abs&&laidKept (boot_heap w.params) s.abs.heap,
      openSeen q loose (importedModules p.main.body) Xt true s.abs,Yf s.abs))=some (true,openGood q loose,Ya w)):LeftO p q loose Xt Yf Ya N:=λw=>by
  obtain⟨⟨hp,gs,d,k,os⟩,e1,e2⟩:=mo.mp (boot_open e hN f w);obtain⟨rfl,rfl,rfl,rfl⟩:hp=boot_heap w.params/\gs=Array.mk []/\d=boot_drawn/\k=boot_toks:=by simpa using e2
  obtain⟨z1,z2,z3⟩:_/\_/\_:=by simpa only [Prod.mk.injEq] using h1 w.params
  obtain⟨s,r,l⟩:=mo.mp (run w os);obtain⟨l1,l2,l3⟩:_/\_/\_:=by simpa only [Prod.mk.injEq] using l
  have r1:=pT r;have a0:(DV w.params os).abs=⟨boot_heap w.params,Array.mk [],boot_drawn,boot_toks,os⟩:=by
    show(⟨absHeap (vI w.params) 11 (boot_heap w.params).life,Array.mk [],boot_drawn,boot_toks,os⟩:Shared)=_;rw[h0]
  rw[a0]at r1;unfold openEnds;rw[e1];have t:topFrom treeTable p w N ⟨boot_heap w.params,Array.mk [],boot_drawn,boot_toks,os⟩=some s.abs:=by
    unfold topFrom;dsimp only;rw[z1,z2,z3,r1];show(match staticsOk (importedModules p.main.body) (boot_heap w.params) s.abs.heap&&namesBound p s.abs.heap&&gensDone s.abs&&laidKept (boot_heap w.params) s.abs.heap with|true=>some s.abs|false=>none)=some s.abs;rw[l1]
  show(topFrom treeTable p w N _).map _=_;rw[t];exact congrArg some (Prod.ext l2 l3)
abbrev D4:List Addr:=2::3::30::31::47::48::50::51::66::67::69::70::85::86::88::89::97::98::99::105::106::112::113::119::120::126::127::136::137::154::155::168::169::171::172::187::188::201::202::204::205::220::221::234::235::237::238::253::254::267::268::270::271::286::287::300::301::303::304::312::313::319::320::328::334::335::348::349::351::352::367::368::374::375::377::378::395::396::402::403::405::406::418::424::425::431::432::434::435::443::444::450::451::457::458::464::465::469::470::483::484::490::491::497::498::504::505::511::512::514::515::525::526::530::531::537::538::544::545::551::552::558::559::565::566::572::573::577::578::598::599::601::602::624::625::627::628::650::651::653::654::676::677::679::680::702::703::705::706::728::729::731::732::740::741::747::748::754::755::761::762::768::769::780::781::785::786::792::793::799::800::804::805::811::812::818::819::825::826::832::833::839::840::844::845::851::852::856::857::861::862::866::867::[]
abbrev Et:List Addr:=48::67::86::98::106::113::120::127::155::169::188::202::221::235::254::268::287::301::313::320::335::349::368::375::396::403::425::432::444::451::458::465::470::484::491::498::505::512::526::531::538::545::552::559::566::573::578::599::625::651::677::703::729::741::748::755::762::769::781::786::793::800::805::812::819::826::833::840::845::852::857::862::867::[]
abbrev Fv:List Addr:=[31,51,70,89,137,172,205,238,271,304,352,378,406,435,515,602,628,654,680,706,732]
abbrev runK (tb:String->Option Builtin)(p:Program)(w:World)(m:Nat)(ann:Option Value):Nat->SharedT->Thread->Option (SharedT×Thread)
  |0,s,t=>some (s,t)
  |n+1,s,t=>match through t with
    |true=>none
    |false=>match stepOk m ann t with
      |false=>none
      |true=>match stepT (denote tb) p w s t with
        |some r=>runK tb p w m ann n r.1 r.2
        |none=>none
def dz {tb:String->Option Builtin}{p:Program}{w:World}{m:Nat}{ann:Option Value}{k:Nat}:∀ {n:Nat}{s:SharedT}{t:Thread}{r:SharedT×Thread},runK tb p w m ann n s t=some r->jf tb p w m ann (n+k) s t=jf tb p w m ann k r.1 r.2
  |0,s,t,r,h=>by
    rw[Nat.zero_add];cases h
    rfl
  |n+1,s,t,r,h=>by
    rw[Nat.succ_add];unfold runK at h;conv=>lhs;unfold jf
    cases a:through t
    · rw[a]at h;dsimp only at h⊢
      cases b:stepOk m ann t
      · rw[b]at h;cases h
      · rw[b]at h;dsimp only at h⊢
        cases c:stepT (denote tb) p w s t with
        |none=>rw[c]at h;cases h
        |some r=>rw[c]at h;exact dz h
    · rw[a]at h;cases h
abbrev kT (x y:Str)(s:Stmt):Obj:=⟨.none,none,.func { name:=x,qualname:=y,params:=ph s,body:=.stmts (pE s),scope:=mn s,globals:=builtinsNs,closure:=[],defaults:=.none,kwdefaults:=.none },#[]⟩
abbrev bo (P:Params)(i:Nat):Obj:=(boot_heap P).objs.toList.getD i ⟨.none,none,.plain,#[]⟩
abbrev fS (p:Program):Env:={ scope:=p.main.scope,locals:=mainNs,globals:=mainNs,cells:=[],code:=.ref 13,frame:=some 14 }
abbrev FD:Frame:=.ret (λx=>Sem.bind (match x with| .ok f=>Sem.pure f| .error e=>Sem.raise e) (λ_=>ret .none)) none false [] (.builtin "claim.caller" {}) default []
abbrev xa (p:Program)(X:List Stmt):Sem Fin:=Sem.bind (Sem.onRaise (execs X (fS p)) (leaving (fS p))) (λa=>Sem.pure (Fin.done a))
abbrev nv (p:Program)(X:List Stmt)(q:Pos):Thread:=⟨xa p X,.body (ac p) (fS p),q,[FD]⟩
def tI {tb:String->Option Builtin}{p:Program}(h:blockStart (ac p) (fS p)=Sem.pure ()):denote tb (.body (ac p) (fS p))=xa p (ac p):=by
  show Sem.bind (blockStart (ac p) (fS p)) (λ_=>xa p (ac p))=_;rw[h]
  rfl
abbrev o0:Obj:=⟨.type "tuple",none,.seq #[] 0,#[]⟩
abbrev oN:Obj:=⟨.none,none,.fields #[],#[]⟩
abbrev oL:List Str->Nat->List Value
  | [],_=>[]
  |x::r,t=>.str x t::oL r (t+1)
abbrev oS (l:List Str)(t:Nat):Obj:=⟨.type "tuple",none,.seq (Array.mk (oL l t)) 0,#[]⟩
abbrev Fo (l:List (Int×Nat)):Array Value:=(l.flatMap λp=>[.int p.1 0,.int 0 0,.ref p.2]).toArray
abbrev Fu:List (Int×Nat):=[(1,20),(5,27),(7,40),(12,59),(17,78),(24,97),(28,105),(30,112),(33,119),(36,126),(39,133),(41,147),(54,180),(67,213),(80,246),(91,279),(104,312),(106,319),(108,326),(125,360),(132,388)]
abbrev FX:List (Int×Nat):=Fu++[(140,416),(153,443),(157,450),(165,457),(173,464),(178,469),(180,476),(201,525),(204,530),(206,537),(210,544),(218,551),(226,558),(234,565),(239,572),(244,577),(247,584),(254,610),(261,636),(268,662),(275,688),(282,714),(290,740),(296,747),(312,754),(330,761),(345,768),(348,775),(350,780),(358,785),(360,792),(380,799),(387,804),(389,811),(399,818),(404,825),(409,832),(421,839),(426,844),(428,851),(444,856),(450,861)]
abbrev oI (l c a:Nat):Obj:=⟨.none,none,.fields #[.int l 0,.int c 0,.ref a],#[]⟩
abbrev oK (x:Str)(t l r:Nat):Obj:=⟨.type "code",none,.fields #[.str x t,.str x (t+1),.str "/claim/cut.py" (t+2),.int l 0,.int 0 0,.int 0 0,.int 0 0,.int 0 0,.ref r,.bool false,.int 181 0,.ref (r+1),.none,.none,.none,.none,.int (t+3:Nat) 0,.int l 0,.str "/claim/cut.py" (t+4)],#[]⟩
abbrev oC (x y:Str)(t l n r u:Nat):Obj:=⟨.type "code",none,.fields #[.str x t,.str y (t+1),.str "/claim/cut.py" (t+2),.int l 0,.int n 0,.int 0 0,.int 0 0,.int 3 0,.ref r,.bool true,.int 181 0,.ref (r+1),.none,.ref (r+2),.ref (r+3),.ref (r+4),.int u 0,.int l 0,.str "/claim/cut.py" (u+1)],#[]⟩
abbrev oF (x y:Str)(s:Stmt)(m:Str)(t c:Nat)(d:Value:=.none):Obj:=⟨.type "function",none,.func (fnOf x y (ph s) (pE s) (mn s) d .none .none (.str m t) none (.ref c) .none),#[]⟩
abbrev oR (a b:Nat)(m:Str)(t:Nat):Obj:=⟨.type "frame",none,.plain,#[some (.ref a),some (.ref 3),some (.ref b),none,some (.str m t),none,some (.ref 0)]⟩
abbrev oX (x:Str)(b m:List Value)(n:Addr)(s:List Value)(r t u:Nat)(w:String):Obj:=⟨.type "type",none,.cls ⟨x,b,m,n,x,true,[],s,false,none,false⟩,#[some (.ref r),none,some (.str x t),some (.str x u),some (.builtin w),some (.bool true)]⟩
abbrev oU (a:Addr):Obj:=⟨.type "super",none,.fields #[.ref a,.ref a,.ref a],#[]⟩
abbrev oJ (a:Addr):Obj:=⟨.type "builtin_function_or_method",none,.fields #[.builtin "object.__init_subclass__",.ref a],#[]⟩
abbrev oP:Obj:=⟨.type "builtin_function_or_method",none,.fields #[.builtin "type.__prepare__",.type "type"],#[]⟩
abbrev oQ (a:Addr):Obj:=⟨.type "tuple",none,.seq #[.ref a] 0,#[]⟩
abbrev fG (x y:Str)(s:Stmt)(m:Str)(mt:Nat)(l:List Str)(t ln n a:Nat)(r:List Obj):List Obj:=o0::oN::oS l (t+3)::o0::kT x y s::oC x y t ln n a (t+3+l.length)::oF x y s m mt (a+5)::r
abbrev oW:List (Nat×Obj)->List Obj->List Obj
  | [],l=>l
  |x::r,l=>(oW r l).set x.1 x.2
abbrev eV (x:Str)(t:Tok)(v:Value)(P:Params):DictEntry:=⟨PyData.keyHash P x,.str x t,v⟩
abbrev eM (t:Nat)(m:Str)(u:Nat):Params->DictEntry:=eV "__module__" t (.str m u)
abbrev eQ (t:Nat)(m:Str)(u:Nat):Params->DictEntry:=eV "__qualname__" t (.str m u)
abbrev eF (t l u:Nat):Params->DictEntry:=eV "__firstlineno__" t (.int l u)
abbrev eS (t a:Nat):Params->DictEntry:=eV "__static_attributes__" t (.ref a)
abbrev eN (t:Nat):Params->DictEntry:=eV "__doc__" t .none
abbrev eR (x:Str)(t a:Nat):Params->DictEntry:=eV x t (.ref a)
abbrev oD (P:Params)(es:List (Params->DictEntry))(n:Nat):Obj:=⟨.type "dict",none,.dict (Array.mk (es.map λf=>f P)) n,#[]⟩
abbrev F3 (P:Params):List Obj:=
bo P 0::
bo P 1::
bo P 2::
bo P 3::
bo P 4::
bo P 5::
bo P 6::
bo P 7::
bo P 8::
bo P 9::
bo P 10::
o0::
oN::
oK "<module>" 182 1 11::
oR 13 3 "__main__" 164::[]
abbrev FW (x y:Str)(t l n r:Nat):Obj:=⟨.type "code",none,.fields #[.str x t,.str y (t+1),.str "/claim/cut.py" (t+2),.int l 0,.int n 0,.int 0 0,.int 0 0,.int 3 0,.ref r,.bool true,.int 181 0,.ref (r+1),.none,.none,.none,.ref (r+2),.int (t+3:Nat) 0,.int l 0,.str "/claim/cut.py" (t+4)],#[]⟩
abbrev oG (x b:String)(v:Value)(a t:Nat):Obj:=⟨.type "getset_descriptor",none,.fields #[.str (Str.ofString x) t,.ref a,.builtin b,v],#[]⟩
@[reducible]def Mt:Type:=Str×Str×List Str×Nat×Nat×List (Obj×Nat)
abbrev yL (a t:Nat)(s:Stmt)(m:Str×Nat)(x y:Str)(l:List Str)(ln n:Nat)(d:Value):List Obj:=match l with
  | []=>o0::oN::kT x y s::FW x y t ln n a::oF x y s m.1 m.2 (a+3) d::[]
  |_=>o0::oN::oS l (t+3)::o0::kT x y s::oC x y t ln n a (t+3+l.length)::oF x y s m.1 m.2 (a+5) d::[]
abbrev FG (a t:Nat)(s:Stmt)(m:Str×Nat)(q:Mt):List Obj:=match q.2.2.2.2.2 with
  | []=>yL a t s m q.1 q.2.1 q.2.2.1 q.2.2.2.1 q.2.2.2.2.1 .none
  |d::_=>d.1::yL (a+1) (t+d.2) s m q.1 q.2.1 q.2.2.1 q.2.2.2.1 q.2.2.2.2.1 (.ref a)
abbrev yU (q:Mt)(a:Nat):Nat:=match q.2.2.1 with
  | []=>a+5+q.2.2.2.2.2.length
  |_=>a+7+q.2.2.2.2.2.length
abbrev CG (q:Mt)(t:Nat):Nat:=match q.2.2.2.2.2 with
  | []=>t+6+q.2.2.1.length
  |d::_=>t+d.2+6+q.2.2.1.length
abbrev Fh (i:Nat)(m:Str×Nat):Nat->List Mt->Nat->Nat->(List Obj->Nat->Nat->List Obj)
  |_,[],_,_=>λr _ _=>r
  |j,q::l,a,t=>λr x y=>FG a t (inClass (top i) j) m q++Fh i m (j+1) l (yU q a) (CG q t) r x y
abbrev FF:List Mt->Nat->Nat
  | [],a=>a
  |q::l,a=>FF l (yU q a)
abbrev Fn:List Mt->Nat->Nat
  | [],a=>a
  |q::l,a=>Fn l (CG q a)
abbrev Fj:List Mt->Nat->Nat->List (Params->DictEntry)->List (Params->DictEntry)
  | [],_,_,r=>r
  |q::l,a,t,r=>eR q.1 (CG q t-1) (yU q a-1)::Fj l (yU q a) (CG q t) r
abbrev Fq:List Mt->Nat->List Value
  | [],_=>[]
  |q::l,a=>.int q.2.2.2.1 0::.int 4 0::.ref (yU q a-2)::Fq l (yU q a)
@[reducible]def It:Type:=(Params->List Obj)×List (Params->DictEntry)×List Value
abbrev iF (a t i:Nat)(m:Str×Nat)(x:Str)(l:List Str)(ln n:Nat)(d:List (Obj×Nat):=[]):It:=(λ_=>FG a t (top i) m (x,x,l,ln,n,d),eR x (CG (x,x,l,ln,n,d) t-1) (yU (x,x,l,ln,n,d) a-1)::[],.int ln 0::.int 0 0::.ref (yU (x,x,l,ln,n,d) a-2)::[])
abbrev iR (o:Params->List Obj):It:=(o,[],[])
abbrev iE (x:Str)(t:Nat)(v:Value):It:=(λ_=>[],[eV x t v],[])
abbrev iC (a T i:Nat)(m:Str×Nat)(x:Str)(ln:Nat)(ms:List Mt)(st:List Str)(sub:List Value:=[]) (br:Nat:=0) (mro:List Value:=[]) (w:String:=""):It:=
  let b:=FF ms (a+7)
  let s:=Fn ms (T+12)
  let e:=s+st.length
  let h (z:List (Params->DictEntry)):=eF (T+11) ln (T+10)::Fj ms (a+7) (T+12) (eS e b::z)
  let o (y:List (Params->DictEntry)) (z k:Obj) (n:Nat) (r:List Obj) (P:Params):List Obj:=z::oP::oD P (eM (T+7) m.1 m.2::eQ (T+9) x (T+8)::h []) (4+ms.length)::o0::⟨.none,none,.fields (Array.mk (Fq ms (a+7))),#[]⟩::oK x (T+2) ln (a+3)::oR (a+5) (a+2) m.1 m.2::Fh i m 0 ms (a+7) (T+12) ((match st with| []=>o0|_=>oS st s)::oD P (eM (T+7) m.1 m.2::h y) n::k::r) 0 0
  match br with
  |0=>(o [eR "__dict__" (e+2) (b+3),eR "__weakref__" (e+4) (b+4),eN (e+5)] o0 ⟨.type "type",none,.cls ⟨x,[.type "object"],[.ref (b+2),.type "object"],b+1,x,true,[],sub,false,none,false⟩,#[none,none,some (.str x T),some (.str x (T+8)),some (.builtin "object.__new__"),some (.bool true)]⟩ 4 [oG "__dict__" "function.__dict__" (.builtin "function.__dict__#set") (b+2) (e+1),oG "__weakref__" "ExceptionGroup.__weakref__" .none (b+2) (e+3),oU (b+2),oJ (b+2)],eR x (e+7) (b+2)::[],.int ln 0::.int 0 0::.ref (a+5)::[])
  |_=>(o [eN (e+1)] (oQ br) (oX x [.ref br] (.ref (b+2)::.ref br::mro) (b+1) sub a T (T+8) w) 2 [oU (b+2),oJ (b+2)],eR x (e+3) (b+2)::[],.int ln 0::.int 0 0::.ref (a+5)::[])
abbrev Ea (P:Params)(nm:Str)(nt n:Nat)(l:List It):List Obj:=bo P 0::bo P 1::bo P 2::oD P (eV "__name__" 165 (.str nm nt)::eN 166::eV "__package__" 167 .none::eV "__loader__" 168 (.builtin "__main__.__loader__#opaque")::eV "__spec__" 169 .none::eR "__annotations__" 170 6::eR "__builtins__" 171 4::eV "__file__" 173 (.str "/claim/cut.py" 172)::eV "__cached__" 174 .none::l.flatMap (·.2.1)) n::bo P 4::bo P 5::bo P 6::bo P 7::bo P 8::bo P 9::bo P 10::o0::⟨.none,none,.fields (Array.mk (l.flatMap (·.2.2))),#[]⟩::oK "<module>" 182 1 11::oR 13 3 "__main__" 164::l.flatMap (·.1 P)
abbrev FT:Str×Nat:=("__main__",164)
abbrev Ez:Str×Nat:=("haulbell.errors",194)
abbrev F0:Str×Nat:=("haulbell.wholes",289)
abbrev Fl:Str×Nat:=("haulbell.boxes",300)
abbrev zi:Str×Nat:=("haulbell.deeds",323)
abbrev Eo:Str×Nat:=("haulbell.hops",572)
abbrev D9:Str×Nat:=("haulbell.items",634)
abbrev nI:Str×Nat:=("haulbell.book",752)
abbrev B5:Str×Nat:=("haulbell.longs",941)
abbrev jg:Str×Nat:=("law_haulbell_k62_laid_flat",1135)
abbrev EI (a T i:Nat)(m:Str×Nat)(x:Str)(ln:Nat)(ms:List Mt)(st:List Str)(sub:List Value:=[]):It:=iC a T i m x ln ms st sub 31 [.type "ValueError",.type "Exception",.type "BaseException",.type "object"] "ValueError.__new__"
abbrev rV (a T i:Nat)(m:Str×Nat)(x:Str)(ln:Nat)(ms:List Mt)(st:List Str)(sub:List Value:=[]):It:=iC a T i m x ln ms st sub 137 [.type "object"] "object.__new__"
abbrev Bi:List It:=
iF 15 187 0 FT "_wall" ["k"] 1 1::
iE "HaulError" 213 (.ref 31)::
iR (λP=>[⟨.type "tuple",none,.seq #[.type "ValueError"] 0,#[]⟩,oP,oD P [eM 203 "haulbell.errors" 194,eQ 205 "HaulError" 204,eF 207 5 206,eS 208 29] 4,o0,oN,oK "HaulError" 198 5 25,oR 27 24 "haulbell.errors" 194,o0,oD P [eM 203 "haulbell.errors" 194,eF 207 5 206,eS 208 29,eR "__weakref__" 210 32,eN 211] 3,oX "HaulError" [.type "ValueError"] [.ref 31,.type "ValueError",.type "Exception",.type "BaseException",.type "object"] 30 [.ref 51,.ref 70,.ref 89] 22 196 204 "ValueError.__new__",⟨.type "getset_descriptor",none,.fields #[.str "__weakref__" 209,.ref 31,.builtin "ExceptionGroup.__weakref__",.none],#[]⟩,oU 31,oJ 31])::
EI 35 214 3 Ez "NoDeed" 7 [("__init__","NoDeed.__init__",["self","word"],9,2,[])] ["word"]::
EI 54 239 4 Ez "NoName" 12 [("__init__","NoName.__init__",["self","word"],14,2,[])] ["word"]::
EI 73 264 5 Ez "NoFlat" 17 [("__init__","NoFlat.__init__",["self","many"],19,2,[])] ["many"]::
iE "BOUND" 292 (.int 1000000000 291)::
iF 92 293 8 F0 "is_whole" ["thing"] 24 1::
iE "NAMES" 308 (.ref 99)::
iR (λ_=>[oS ["here","there","left","way","sign","met"] 302])::
iF 100 309 11 Fl "is_box" ["thing"] 28 1::
iF 107 316 12 Fl "is_number" ["thing"] 30 1::
iF 114 325 14 zi "check_box" ["word","box"] 33 2::
iF 121 333 15 zi "check_number" ["word","number"] 36 2::
iC 128 341 0 zi "Deed" 39 [] [] [.ref 172,.ref 205,.ref 238,.ref 271,.ref 304,.ref 352,.ref 602,.ref 628,.ref 654,.ref 680,.ref 706,.ref 732]::
rV 142 361 17 zi "Set" 41 [("__init__","Set.__init__",["self","box","number"],43,3,[]),("step","Set.step",["self","boxes","store"],49,3,[]),("words","Set.words",["self"],52,1,[])] ["box","number"]::
rV 175 404 18 zi "Add" 54 [("__init__","Add.__init__",["self","box","number"],56,3,[]),("step","Add.step",["self","boxes","store"],62,3,[]),("words","Add.words",["self"],65,1,[])] ["box","number"]::
rV 208 447 19 zi "Take" 67 [("__init__","Take.__init__",["self","box","other"],69,3,[]),("step","Take.step",["self","boxes","store"],75,3,[]),("words","Take.words",["self"],78,1,[])] ["box","other"]::
rV 241 490 20 zi "Read" 80 [("__init__","Read.__init__",["self","box"],82,2,[]),("step","Read.step",["self","boxes","store"],86,3,[]),("words","Read.words",["self"],89,1,[])] ["box"]::
rV 274 531 21 zi "Write" 91 [("__init__","Write.__init__",["self","box"],93,2,[]),("step","Write.step",["self","boxes","store"],97,3,[]),("words","Write.words",["self"],100,1,[])] ["box"]::
iE "MOST_HOPPED" 575 (.int 24 574)::
iF 307 576 24 Eo "is_many" ["thing"] 104 1::
iF 314 583 25 Eo "is_on" ["thing"] 106 1::
rV 321 590 26 Eo "Hop" 108 [("__init__","Hop.__init__",["self","many","on"],110,3,[(⟨.type "tuple",none,.seq #[.none] 0,#[]⟩,0)]),("step","Hop.step",["self","boxes","store"],116,3,[]),("words","Hop.words",["self","told"],119,1,[])] ["many","on"]::
iC 355 636 28 D9 "Do" 125 [("__init__","Do.__init__",["self","name"],127,2,[]),("told","Do.told",["self"],130,1,[])] ["called"]::
iC 383 672 29 D9 "Times" 132 [("__init__","Times.__init__",["self","many","block"],134,3,[]),("told","Times.told",["self"],138,1,[])] ["block","many"]::[]
abbrev iJ:List It:=
iC 411 710 30 D9 "When" 140 [("__init__","When.__init__",["self","on","block","other"],142,4,[(⟨.type "tuple",none,.seq #[.none] 0,#[]⟩,0)]),("told","When.told",["self"],147,1,[])] ["block","on","other"]::
iE "MOST_ROWS" 751 (.int 24 750)::
iE "LETTERS" 755 (.str "abcdefghijklmnopqrstuvwxyz" 754)::
iE "LONGEST_NAME" 757 (.int 8 756)::
iF 440 758 35 nI "is_name" [] 153 1::
iF 445 764 36 nI "check_names" ["book","block","item"] 157 2::
iF 452 773 37 nI "count_item" ["book","item"] 165 2::
iF 459 781 38 nI "count_when" ["book","when","many"] 173 2::
iF 466 790 39 nI "count_block" [] 178 2::
iC 471 796 40 nI "Book" 180 [("__init__","Book.__init__",["self"],182,1,[]),("has","Book.has",["self","word"],186,2,[]),("name","Book.name",["self","word","block"],189,3,[]),("block_named","Book.block_named",["self","word"],196,2,[]),("count_named","Book.count_named",["self","word"],199,2,[])] ["blocks","counts"]::
iF 520 858 41 nI "count_of" ["book","block"] 201 2::
iF 527 866 42 nI "under" [] 204 2::
iF 532 872 43 nI "laid_do" ["book","place","do"] 206 3::
iF 539 881 44 nI "laid_times" ["book","place","times","once","pairs","turn"] 210 3::
iF 546 893 45 nI "laid_when" ["book","place","when","block","other","first","second"] 218 3::
iF 553 906 46 nI "laid_item" ["book","place","item"] 226 3::
iF 560 915 47 nI "laid" ["book","block","pairs","place","item"] 234 2::
iF 567 926 48 nI "laid_flat" ["book","block","many"] 239 2::
iF 574 935 49 nI "flat" [] 244 2::
rV 579 943 51 B5 "Copy" 247 [("step","Copy.step",["self","boxes","store"],249,3,[]),("words","Copy.words",["self"],252,1,[])] []::
rV 605 975 52 B5 "Fill" 254 [("step","Fill.step",["self","boxes","store"],256,3,[]),("words","Fill.words",["self"],259,1,[])] []::
rV 631 1007 53 B5 "Seek" 261 [("step","Seek.step",["self","boxes","store"],263,3,[]),("words","Seek.words",["self"],266,1,[])] []::
rV 657 1039 54 B5 "Match" 268 [("step","Match.step",["self","boxes","store"],270,3,[]),("words","Match.words",["self"],273,1,[])] []::
rV 683 1071 55 B5 "Shift" 275 [("step","Shift.step",["self","boxes","store"],277,3,[]),("words","Shift.words",["self"],280,1,[])] []::
rV 709 1103 56 B5 "Turn" 282 [("step","Turn.step",["self","boxes","store"],284,3,[]),("words","Turn.words",["self"],287,1,[])] []::
iF 735 1137 58 jg "_law_hand" ["_law_script","_law_cells","_law_fold","_law_cell"] 290 1::
iF 742 1147 59 jg "_law_draw" ["_law_hand_here","_law_many","_law_rest","_law_cell","_law_one","_law_two"] 296 2::
iF 749 1159 60 jg "_law_spec" ["_law_hand_here","_law_size","_law_way","_law_names","_law_box","_law_pick"] 312 2::
iF 756 1171 61 jg "_law_deed" ["_law_spec_here","_law_word"] 330 1::
iF 763 1179 62 jg "_law_long" ["_law_word","_law_made"] 345 1::
iF 770 1187 63 jg "_law_whole" ["_law_thing"] 348 1::
iF 777 1194 64 jg "_law_called" [] 350 2::
iF 782 1200 65 jg "_law_nothing" [] 358 1::
iF 787 1206 66 jg "_law_block" ["_law_hand_here","_law_told_here","_law_deep","_law_most","_law_found","_law_some","_law_k","_law_way","_law_pick","_law_many","_law_inner","_law_on","_law_further","_law_block_here"] 360 4::
iF 794 1226 67 jg "_law_named" ["_law_hand_here","_law_most","_law_named_here","_law_k","_law_word","_law_block_here"] 380 2::
iF 801 1238 68 jg "_law_items" [] 387 1::
iF 806 1244 69 jg "_law_item" ["_law_spec_here"] 389 1::
iF 813 1251 70 jg "_law_book" ["_law_named_here","_law_book_here","_law_word"] 399 1::
iF 820 1260 71 jg "_law_counts" ["_law_named_here","_law_counts_here","_law_word"] 404 1::
iF 827 1269 72 jg "_law_count" ["_law_counts_here","_law_block_here","_law_found","_law_item_here"] 409 2::
iF 834 1279 73 jg "_law_flat" ["_law_named_here","_law_block_here","_law_found","_law_at","_law_item_here"] 421 2::
iF 841 1290 74 jg "_law_under" [] 426 2::
iF 846 1296 75 jg "_law_within" ["_law_named_here","_law_item_here","_law_found","_law_time","_law_one","_law_other","_law_head"] 428 2::
iF 853 1309 76 jg "_law_words" [] 444 1::
iF 858 1315 77 jg "_law_told" [] 450 2::[]
abbrev FP (P:Params):List Obj:=oW [(12,⟨.none,none,.fields (Fo Fu),#[]⟩),(137,⟨.type "type",none,.cls ⟨"Deed",[.type "object"],[.ref 137,.type "object"],136,"Deed",true,[],[.ref 172,.ref 205,.ref 238,.ref 271,.ref 304,.ref 352],false,none,false⟩,#[none,none,some (.str "Deed" 341),some (.str "Deed" 349),some (.builtin "object.__new__"),some (.bool true)]⟩)] (Ea P "haulbell.items" 634 33 Bi)
abbrev FU (P:Params):List Obj:=oW [(12,⟨.none,none,.fields (Fo FX),#[]⟩)] (Ea P "law_haulbell_k62_laid_flat" 1135 78 (Bi++iJ))
abbrev S0 (P:Params)(os:OsState):SharedT:=⟨B8 0 .nil (F3 P),15,(boot_heap P).life,Array.mk [],boot_drawn,187,os⟩
abbrev q0:Pos:=⟨0,0,0,0⟩
abbrev S1 (P:Params)(os:OsState):SharedT:=⟨B8 0 .nil (FP P),411,(boot_heap P).life,Array.mk [],boot_drawn,710,os⟩
abbrev q1:Pos:=⟨132,0,139,53⟩
abbrev S2 (P:Params)(os:OsState):SharedT:=⟨B8 0 .nil (FU P),863,(boot_heap P).life,Array.mk [],boot_drawn,1321,os⟩
abbrev q2:Pos:=⟨450,0,461,36⟩
abbrev F4 (P:Params):List Obj:=Ea P "law_haulbell_k62_laid_flat" 1135 79 (Bi++iJ++[iF 863 1321 78 jg "law" [] 462 1])
abbrev K0 (P:Params):PySem.W.Frag:=D4.map λa=>(a,(F4 P).getD a oN)
abbrev l6 (p:Program):Program:=PySem.W.view p [78]
abbrev vR:List Str:="_wall"::"HaulError"::"NoDeed"::"NoName"::"NoFlat"::"BOUND"::"is_whole"::"NAMES"::"is_box"::"is_number"::"check_box"::"check_number"::"Deed"::"Set"::"Add"::"Take"::"Read"::"Write"::"MOST_HOPPED"::"is_many"::"is_on"::"Hop"::"Do"::"Times"::"When"::"MOST_ROWS"::"LETTERS"::"LONGEST_NAME"::"is_name"::"check_names"::"count_item"::"count_when"::"count_block"::"Book"::"count_of"::"under"::"laid_do"::"laid_times"::"laid_when"::"laid_item"::"laid"::"laid_flat"::"flat"::"Copy"::"Fill"::"Seek"::"Match"::"Shift"::"Turn"::"_law_hand"::"_law_draw"::"_law_spec"::"_law_deed"::"_law_long"::"_law_whole"::"_law_called"::"_law_nothing"::"_law_block"::"_law_named"::"_law_items"::"_law_item"::"_law_book"::"_law_counts"::"_law_count"::"_law_flat"::"_law_under"::"_law_within"::"_law_words"::"_law_told"::[]
end My
open PySem PySem.W in
set_option maxHeartbeats 0 in
def My.zN (w:World)(os:OsState):My.runK treeTable My.pr w 11 (some (.ref 6)) 12 (My.DV w.params os) (topStub My.pr)=some (My.S0 w.params os,⟨denote treeTable (.body (ac My.pr) (My.fS My.pr)),.body (ac My.pr) (My.fS My.pr),default,[My.FD]⟩):=by
  delta My.pr;rewrite[Fast.te2368527892694137696,Fast.te14364793385576792824]
  kernel_rfl
open PySem PySem.W in
set_option maxHeartbeats 0 in
def My.zY (w:World)(os:OsState)(B:List Stmt):My.runK treeTable My.pr w 11 (some (.ref 6)) 3805 (My.S0 w.params os) (My.nv My.pr (((ac My.pr).drop 0).take 30++B) My.q0)=some (My.S1 w.params os,My.nv My.pr B My.q1):=by
  delta My.pr;rewrite[Fast.te2368527892694137696,Fast.te14364793385576792824]
  kernel_rfl
open PySem PySem.W in
set_option maxHeartbeats 0 in
def My.An (w:World)(os:OsState)(B:List Stmt):My.runK treeTable My.pr w 11 (some (.ref 6)) 3352 (My.S1 w.params os) (My.nv My.pr (((ac My.pr).drop 30).take 48++B) My.q1)=some (My.S2 w.params os,My.nv My.pr B My.q2):=by
  delta My.pr;rewrite[Fast.te2368527892694137696,Fast.te14364793385576792824]
  kernel_rfl
open PySem PySem.W in
set_option maxHeartbeats 0 in
def My.DF:LeftO My.pr (My.l6 My.pr) My.vR (λs=>xlAt (My.l6 My.pr) [] s&&recOk PySem.Challenge.rw_haulbell_k62_laid_flat.row.records s) (λs=>My.D4.map s.heap.get?) (λw=>(My.K0 w.params).map λp=>some p.2) 14492:=by
  refine My.rN (by kernel_rfl) rfl (λ_=>by kernel_rfl) (λ_=>by kernel_rfl) (λ_=>by kernel_rfl) λw os=>?_
  have d:denote treeTable (.body (ac My.pr) (My.fS My.pr))=My.xa My.pr (ac My.pr):=My.tI (by kernel_rfl);have e:My.jf treeTable My.pr w 11 (some (.ref 6)) (12+(3805+(3352+(7323)))) (My.DV w.params os) (topStub My.pr)=My.jf treeTable My.pr w 11 (some (.ref 6)) 7323 (My.S2 w.params os) (My.nv My.pr ((ac My.pr).drop 78) My.q2):=by
    rw[My.dz (My.zN w os)];dsimp only;rw[d];show My.jf treeTable My.pr w 11 (some (.ref 6)) _ (My.S0 w.params os) (My.nv My.pr ((ac My.pr).drop 0) My.q0)=_;rw[show(ac My.pr).drop 0=((ac My.pr).drop 0).take 30++(ac My.pr).drop 30 from by
      rw[show(ac My.pr).drop 30=((ac My.pr).drop 0).drop 30 by rw[List.drop_drop],List.take_append_drop],My.dz (My.zY w os _)]
    rw[show(ac My.pr).drop 30=((ac My.pr).drop 30).take 48++(ac My.pr).drop 78 from by
      rw[show(ac My.pr).drop 78=((ac My.pr).drop 30).drop 48 by rw[List.drop_drop],List.take_append_drop],My.dz (My.An w os _)]
  rw[show(14492:Nat)=12+(3805+(3352+(7323))) from rfl,e]
  delta My.pr;rewrite[Fast.te4187177175401517315,Fast.te5923862056798008813,Fast.te2368527892694137696,Fast.te14364793385576792824]
  kernel_rfl
set_option Elab.async false
open List(mem_filter mem_range filterMap_cons mem_cons_self mem_cons_of_mem mem_cons mem_append mem_append_left getElem?_set_self getElem?_set_ne mem_append_right size_toArray any_eq_false length_cons map_cons length_map append_nil nodup_cons of_mem_zip length_take getElem?_append_right getElem?_append_left getElem?_map take_sublist mem_of_getElem? length_append length_drop length_set all_cons any_cons replicate_succ flatten_cons append_assoc foldl_cons length_singleton nil_append find?_cons cons_append forIn_cons forIn_nil getElem?_eq_getElem drop_zero lookup_cons take_of_length_le length_range all_eq_true not_mem_nil length_eq_zero_iff zip_cons_cons zip_append nodup_append take_append_drop isEmpty_iff take_succ map_append any_eq_true sum_cons mem_singleton range_succ flatten_append cons_ne_nil map_take)
@[reducible]def GB:Type:=Unit->PySem.Shared->Prop
@[reducible]def GC:Type:=PySem.Value->PySem.Shared->Prop
@[reducible]def GD:Type:=List (PySem.Addr×PySem.Obj)
@[reducible]def GF:Type:=PySem.Str->Option PySem.Value
namespace L2
open PySem PySem.Spec PyProof.Rows
@[reducible]def Key:=Sum Int Str
abbrev ju:Key->Value->Bool
 | .inl k,v=>Value.isInt k v
 | .inr x,v=>Value.isStrOf x v
abbrev Ek (w:World):Key->Int
 | .inl k=>hashInt k
 | .inr x=>hashStr w x
def av:∀ {k:Key}{v:Value},ju k v=true->(∃ i t,k=Sum.inl i/\v=Value.int i t)\/(∃ x t,k=Sum.inr x/\v=Value.str x t)
 | .inl i,v,h=>by
  obtain⟨t,e⟩:=Value.isInt_shape (k:=i) (v:=v) h;exact .inl ⟨i,t,rfl,e⟩
 | .inr x,v,h=>by
  obtain⟨t,e⟩:=Value.isStrOf_shape (x:=x) (v:=v) h;exact .inr ⟨x,t,rfl,e⟩
def rP (i:Int)(t:Tok):ju (.inl i) (.int i t)=true:=by simp[ju,Value.isInt]
def rp (x:Str)(t:Tok):ju (.inr x) (.str x t)=true:=by simp[ju,Value.isStrOf]
def BR (a b:Int):decide ((Sum.inl a:Key)=Sum.inl b)=(a ==b):=by
 by_cases e:a=b
 .subst e;simp
 .have h:¬ (Sum.inl a:Key)=Sum.inl b:=λq=>e (Sum.inl.inj q)
  rw[decide_eq_false h];exact(beq_eq_false_iff_ne.mpr e).symm
def BX (a b:Str):decide ((Sum.inr a:Key)=Sum.inr b)=decide (a=b):=by
 by_cases e:a=b
 .subst e;simp
 .have h:¬ (Sum.inr a:Key)=Sum.inr b:=λq=>e (Sum.inr.inj q)
  rw[decide_eq_false h,decide_eq_false e]
def A2 (a:Int)(b:Str):decide ((Sum.inl a:Key)=Sum.inr b)=false:=decide_eq_false (λq=>nomatch q)
def A7 (a:Str)(b:Int):decide ((Sum.inr a:Key)=Sum.inl b)=false:=decide_eq_false (λq=>nomatch q)
abbrev aI (prog:Program)(w:World):PySem.KeyKind prog w Key where
 is:=ju
 hash:=Ek w
 inj:=λv a b ha hb=>by
  rcases av ha with⟨i,t,rfl,rfl⟩|⟨x,t,rfl,rfl⟩
  .rcases av hb with⟨j,u,rfl,e⟩|⟨y,u,rfl,e⟩
   .injection e with e1 _;rw[e1]
   .exact nomatch e
  .rcases av hb with⟨j,u,rfl,e⟩|⟨y,u,rfl,e⟩
   .exact nomatch e
   .injection e with e1 _;rw[e1]
 byValue:=λk v h=>by
  rcases av h with⟨i,t,rfl,rfl⟩|⟨x,t,rfl,rfl⟩<;>rfl
 pyHash:=λhv h=>by
  rcases av hv with⟨i,t,rfl,rfl⟩|⟨x,t,rfl,rfl⟩
  .exact wpAny_pyHash_int h
  .exact wpAny_pyHash_str h
 eqBool:=λhu hv h=>by
  rcases av hu with⟨i,t,rfl,rfl⟩|⟨x,t,rfl,rfl⟩
  .rcases av hv with⟨j,u,rfl,rfl⟩|⟨y,u,rfl,rfl⟩
   .rw[BR]at h;exact wpAny_eqBool_int h
   .rw[A2]at h;exact SeqAt.EqAt.int_str i t y u _ _ _ _ h
  .rcases av hv with⟨j,u,rfl,rfl⟩|⟨y,u,rfl,rfl⟩
   .rw[A7]at h;exact SeqAt.EqAt.str_int x t j u _ _ _ _ h
   .rw[BX]at h;exact wpAny_eqBool_str h
 «strs»:=λk x t v h=>by
  rcases av h with⟨i,u,rfl,e⟩|⟨y,u,rfl,e⟩
  .exact nomatch e
  .injection e with e1 _
   subst e1;cases v<;>rfl
def lQ (prog:Program)(w:World)(i:Int)(t:Tok):(aI prog w).is (.inl i) (.int i t)=true:=rP i t
def mJ (prog:Program)(w:World)(x:Str)(t:Tok):(aI prog w).is (.inr x) (.str x t)=true:=rp x t
inductive V where
 |non|bl (b:Bool)|int (i:Int)|str (x:Str)|byt (b:Array UInt8)|flt (b:UInt64)|ref (a:Addr)|ty (n:String)
 deriving DecidableEq
abbrev RelV:V->Value->Prop
 | .non,u=>u=Value.none
 | .bl b,u=>u=Value.bool b
 | .int i,u=>∃ t,u=Value.int i t
 | .str x,u=>∃ t,u=Value.str x t
 | .byt b,u=>∃ t,u=Value.bytes b t
 | .flt b,u=>∃ t,u=Value.float b t
 | .ref a,u=>u=Value.ref a
 | .ty n,u=>u=Value.type n
@[reducible]def Vals:List V->List Value->Prop:=Paired RelV
variable {xs:List V}{us:List Value}
def Vals.length (r:Vals xs us):xs.length=us.length:=Paired.length r
def Vals.get:∀ {xs:List V}{us:List Value}{i:Nat}{x:V},Vals xs us->xs[i]? =some x->∃ u,us[i]? =some u/\RelV x u
 |_,_,_,_,.nil,e=>by simp at e
 |_,_,0,_,.cons r _,e=>by simp at e;subst e;exact⟨_,rfl,r⟩
 |_,_,i+1,x,.cons _ t,e=>by
  obtain⟨u,h1,h2⟩:=Vals.get (i:=i) (x:=x) t (by simpa using e);exact⟨u,by simpa using h1,h2⟩
variable {u:Value}
def Vals.set {x:V}(r:RelV x u):∀ {xs:List V}{us:List Value}(i:Nat),Vals xs us->Vals (xs.set i x) (us.set i u)
 |_,_,_,.nil=>.nil
 |_,_,0,.cons _ t=>.cons r t
 |_,_,i+1,.cons q t=>.cons q (Vals.set r i t)
def Vals.append:∀ {xs ys:List V}{us ws:List Value},Vals xs us->Vals ys ws->Vals (xs++ys) (us++ws)
 |_,_,_,_,.nil,s=>s
 |_,_,_,_,.cons r t,s=>.cons r (Vals.append t s)
def Vals.take:∀ {xs:List V}{us:List Value}(n:Nat),Vals xs us->Vals (xs.take n) (us.take n)
 |_,_,0,_=>.nil
 |_,_,_+1,.nil=>.nil
 |_,_,n+1,.cons r t=>.cons r (Vals.take n t)
def Vals.drop:∀ {xs:List V}{us:List Value}(n:Nat),Vals xs us->Vals (xs.drop n) (us.drop n)
 |_,_,0,r=>r
 |_,_,_+1,.nil=>.nil
 |_,_,n+1,.cons _ t=>Vals.drop n t
abbrev cx:Option V->Option Value->Prop
 |some v,some u=>RelV v u
 |none,none=>True
 |_,_=>False
abbrev KV {κ:Type}:List (κ×V)->List (κ×Value)->Prop:=Paired λ(p:κ×V) (q:κ×Value)=>p.1=q.1/\RelV p.2 q.2
abbrev kV:Key->V
 | .inl i=>.int i
 | .inr x=>.str x
inductive HO where
  |lst (xs:List V)
  |tup (xs:List V)
  |dK (kvs:List (Key×V))|dT (kvs:List (List Key×V))
  |set (S:Int->Bool) (n:Nat)
  |ins (C dx:Addr) (fs:List (Str×V))
  |own (x:Addr)
  |exc (C:Addr) (dx:Option Addr) (fs:List (Str×V)) (fr:Bool)
  |xd (fs:List (Str×V))
  |met (f x:Addr)
  |rng (lo hi:Int)
  |aH (o:Obj) (u:HO)
  |tbl (ps:Array Value)
  |ext (φ:Heap->Prop)
@[reducible]def Hp:=Addr->Option HO
abbrev upd (H:Hp)(a:Addr)(o:HO):Hp:=λb=>if b=a then some o else H b
variable {H:Hp}{a:Addr}{o:HO}
def ak:upd H a o a=some o:=by unfold upd;rw[if_pos rfl]
variable {b:Addr}
def ah (h:b≠a):upd H a o b=H b:=by unfold upd;rw[if_neg h]
def we {u:HO}:upd (upd H a o) a u=upd H a u:=by
 funext b;unfold upd;split<;>rfl
def DA {u:HO}(h:H a=some o)(h':H b=some u)(d:o≠u):a≠b:=by
 intro e;subst e;rw[h]at h';exact d (Option.some.inj h')
def aG (h:H a=some o)(h':H b=none):a≠b:=by
 intro e;subst e;rw[h]at h';cases h'
section
variable (P:Program) (w:World)
abbrev aq (H:Hp)(h:Heap)(a:Addr):HO->Prop
 | .lst xs=>xs.length<=bn/\∃ (its:List Value) (n:Nat),Vals xs its/\h.get? a=some { cls:=.type "list",data:=.seq its.toArray n }
 | .tup xs=>xs.length<=bn/\∃ its:List Value,Vals xs its/\IsTup h a its.toArray
 | .dK kvs=>kvs.length<=bn/\(a ==sysModules)=false/\∃ vs,KV kvs vs/\h.DictOf (aI P w) a vs
 | .dT kvs=>kvs.length<=bn/\(a ==sysModules)=false/\∃ xs:List (List Key×Addr×Value),
   Paired (λ(p:List Key×V) (q:List Key×Addr×Value)=>p.1=q.1/\H q.2.1=some (.tup (p.1.map kV))/\RelV p.2 q.2.2) kvs xs/\
   ∃ o es ep,h.get? a=some o/\o.ExactDict/\o.data=.dict es ep/\es.toList=xs.map (entryOfKey (tupleKind (aI P w)))/\(xs.map (·.1)).Nodup
 | .set S n=>h.SetOf (intKind P w) a S n
 | .ins C dx fs=>H dx=some (.own a)/\fs.length<=1000/\dx≠a/\h.get? a=some (W.instObj C dx)/\
   ∃ mA,h.Ns1 dx mA/\(∀ f,cx (fs.lookup f) (mA f))/\PySem.Within mA (fs.map (·.1))
 | .exc C dx fs fr=>(∃ vs,h.get? a=some { cls:=.ref C,dict:=dx,data:=.fields vs }/\vs.size=6/\(fr=true->vs[1]? =some Value.none))/\
   ((dx=none/\fs=[])\/∃ d,dx=some d/\H d=some (.own a)/\fs.length<=1000/\d≠a/\∃ mA,h.Ns1 d mA/\(∀ f,cx (fs.lookup f) (mA f))/\PySem.Within mA (fs.map (·.1)))
 | .own _=>∃ o,h.get? a=some o
 | .xd fs=>∃ mA,h.Ns1 a mA/\∀ f,cx (fs.lookup f) (mA f)
 | .rng lo hi=>∃ t u v,h.get? a=some { cls:=.type "range",data:=.fields #[.int lo t,.int hi u,.int 1 v] }
 | .aH o u=>h.get? a=some o/\aq H h a u
 | .tbl ps=>h.get? a=some { cls:=.none,data:=.fields ps }
 | .met f x=>h.get? a=some (W.methodObj (.ref f) (.ref x))
 | .ext φ=>φ h/\(∃ o,h.get? a=some o)/\∀ h1 h2:Heap,φ h1->(∀ o,h1.get? a=some o->h2.get? a=some o)->φ h2
abbrev dJ (H:Hp)(h:Heap):Prop:=∀ a o,H a=some o->aq P w H h a o
end
section
variable {P:Program}{w:World}{H H':Hp}{h h':Heap}{a:Addr}{o:HO}
def aq.lt (x:aq P w H h a o):a<h.objs.size:=by
 cases o with
 |lst xs=>obtain⟨_,_,_,_,e⟩:=x;exact sK e
 |tup xs=>obtain⟨_,_,_,p⟩:=x;exact p.lt
 |dK kvs=>obtain⟨_,_,_,_,o,_,_,e,_⟩:=x;exact sK e
 |dT kvs=>obtain⟨_,_,_,_,o,_,_,e,_⟩:=x;exact sK e
 |set S n=>obtain⟨o,_,_,_,e,_⟩:=x;exact sK e
 |ins C dx fs=>obtain⟨_,_,_,e,_⟩:=x;exact sK e
 |exc C dx fs fr=>obtain⟨⟨_,e,_⟩,_⟩:=x;exact sK e
 |own y=>obtain⟨_,e⟩:=x;exact sK e
 |xd fs=>obtain⟨_,⟨_,_,_,e,_⟩,_⟩:=x;exact sK e
 |rng lo hi=>obtain⟨_,_,_,e⟩:=x;exact sK e
 |aH ob u=>obtain⟨e,_⟩:=x;exact sK e
 |tbl ps=>exact sK (show h.get? a=some _ from x)
 |met f y=>exact sK (show h.get? a=some _ from x)
 |ext φ=>obtain⟨_,⟨_,e⟩,_⟩:=x;exact sK e
def Paired.BU {α β:Type}{F G:α->β->Prop}:∀ {l₁:List α}{l₂:List β},Paired F l₁ l₂->(∀ a b,F a b->G a b)->Paired G l₁ l₂
 |_,_,.nil,_=>.nil
 |_,_,.cons r t,f=>.cons (f _ _ r) (Paired.BU t f)
def aq.eo (x:aq P w H h a o)(k:∀ b u,(b=a\/H b=some (.own a))->h.get? b=some u->h'.get? b=some u)
  (ho:∀ b,H b=some (.own a)->H' b=some (.own a)) (ht:∀ b xs,H b=some (.tup xs)->H' b=some (.tup xs)):aq P w H' h' a o:=by
 induction o with
 |lst xs=>obtain⟨z,its,n,r,e⟩:=x;exact⟨z,its,n,r,k _ _ (.inl rfl) e⟩
 |tup xs=>obtain⟨z,its,r,ob,e,c⟩:=x;exact⟨z,its,r,ob,k _ _ (.inl rfl) e,c⟩
 |dK kvs=>obtain⟨z,y,vs,r,ob,es,ep,e,c⟩:=x;exact⟨z,y,vs,r,ob,es,ep,k _ _ (.inl rfl) e,c⟩
 |dT kvs=>
  obtain⟨z,y,xs,r,ob,es,ep,e,c⟩:=x;exact⟨z,y,xs,Paired.BU r λp q z=>⟨z.1,ht _ _ z.2.1,z.2.2⟩,ob,es,ep,k _ _ (.inl rfl) e,c⟩
 |set S n=>obtain⟨ob,es,ep,t,e,c⟩:=x;exact⟨ob,es,ep,t,k _ _ (.inl rfl) e,c⟩
 |ins C dx fs=>
  obtain⟨d,z,ne,e,mA,⟨od,es,ep,e2,c⟩,r⟩:=x;exact⟨ho _ d,z,ne,k _ _ (.inl rfl) e,mA,⟨od,es,ep,k _ _ (.inr d) e2,c⟩,r⟩
 |exc C dx fs fr=>
  obtain⟨⟨vs,e,z⟩,q⟩:=x;refine⟨⟨vs,k _ _ (.inl rfl) e,z⟩,?_⟩;rcases q with q|⟨d,ed,d1,z1,ne,mA,⟨od,es,ep,e2,c⟩,r⟩
  .exact .inl q
  .exact .inr ⟨d,ed,ho _ d1,z1,ne,mA,⟨od,es,ep,k _ _ (.inr d1) e2,c⟩,r⟩
 |own y=>obtain⟨ob,e⟩:=x;exact⟨ob,k _ _ (.inl rfl) e⟩
 |xd fs=>obtain⟨mA,⟨od,es,ep,e,c⟩,r⟩:=x;exact⟨mA,⟨od,es,ep,k _ _ (.inl rfl) e,c⟩,r⟩
 |rng lo hi=>obtain⟨t,u,v,e⟩:=x;exact⟨t,u,v,k _ _ (.inl rfl) e⟩
 |aH ob u ih=>obtain⟨e,q⟩:=x;exact⟨k _ _ (.inl rfl) e,ih q⟩
 |tbl ps=>
  have e:h.get? a=some { cls:=.none,data:=.fields ps }:=x;show h'.get? a=some { cls:=.none,data:=.fields ps };exact k a _ (.inl rfl) e
 |met f y=>
  have e:h.get? a=some (W.methodObj (.ref f) (.ref y)):=x;show h'.get? a=some (W.methodObj (.ref f) (.ref y));exact k a _ (.inl rfl) e
 |ext φ=>obtain⟨p,⟨o,e⟩,st⟩:=x;exact⟨st _ _ p λo q=>k _ _ (.inl rfl) q,⟨o,k _ _ (.inl rfl) e⟩,st⟩
def dJ.lt (x:dJ P w H h)(e:H a=some o):a<h.objs.size:=(x a o e).lt
def dJ.fresh (x:dJ P w H h)(e:h.objs.size<=a):H a=none:=by
 cases q:H a with
 |none=>rfl
 |some u=>exact absurd (nl (x.lt q) e) (Nat.lt_irrefl _)
def dJ.kept (x:dJ P w H h)(k:∀ b u,h.get? b=some u->h'.get? b=some u):dJ P w H h':=λa o e=>
 (x a o e).eo (λb u _ q=>k b u q) (λ_ q=>q) λ_ _ q=>q
def dJ.laid (x:dJ P w H h)(k:∀ b u,h.get? b=some u->h'.get? b=some u) (hp:h.objs.size<=a) (new:aq P w (upd H a o) h' a o):dJ P w (upd H a o) h':=λb u e=>by
 have hn:=x.fresh hp
 by_cases hb:b=a
 .subst hb;rw[ak]at e;cases e;exact new
 .rw[ah hb]at e;exact(x b u e).eo (λc v _ q=>k c v q) (λc q=>by rw[ah (aG q hn)];exact q) λc xs q=>by rw[ah (aG q hn)];exact q
end
abbrev Rd (H:Hp)(a:Addr)(u:HO):Prop:=H a=some u\/∃ o,H a=some (.aH o u)
variable {P:Program}{w:World}{h:Heap}
def Rd.ok {u:HO}(r:Rd H a u)(x:dJ P w H h):aq P w H h a u:=by
 rcases r with r|⟨o,r⟩
 .exact x a u r
 .obtain⟨_,q⟩:=x a _ r;exact q
abbrev Ca:Option HO->Prop
 |some (.lst _)=>True
 |some (.dK _)=>True
 |some (.dT _)=>True
 |some (.set _ _)=>True
 |some (.ins _ _ _)=>True
 |some (.exc _ _ _ _)=>True
 |some (.ext _)=>True
 |_=>False
section
variable {P:Program}{w:World}{H:Hp}{h h':Heap}{x e:Addr}{o':HO}
def dJ.write (ok:dJ P w H h)(mu:Ca (H x))(he:e=x\/H e=some (.own x))(k:∀ b u,b≠e->h.get? b=some u->h'.get? b=some u) (heo:∃ u,h'.get? e=some u)
  (new:aq P w (upd H x o') h' x o'):dJ P w (upd H x o') h':=λb u q=>by
 have nown:∀ c y,H c=some (.own y)->c≠x:=λc y r z=>by subst z;rw[r]at mu;exact mu
 have ntup:∀ c xs,H c=some (.tup xs)->c≠x:=λc xs r z=>by subst z;rw[r]at mu;exact mu
 by_cases hb:b=x
 .subst hb;rw[ak]at q;cases q;exact new
 .rw[ah hb]at q
  by_cases hbe:b=e
  .have q':H b=some (.own x):=by
    rcases he with z|z
    .exact absurd (hbe.trans z) hb
    .rw[hbe];exact z
   rw[q]at q';cases q';obtain⟨v,hv⟩:=heo;exact⟨v,by rw[hbe];exact hv⟩
  .refine(ok b u q).eo (λc v hc r=>k c v ?_ r) (λc r=>by rw[ah (nown c b r)];exact r) λc xs r=>by rw[ah (ntup c xs r)];exact r
   rcases hc with rfl|hc
   .exact hbe
   .rintro rfl;rcases he with z|z
    .exact nown c b hc z
    .rw[hc]at z;cases z;exact hb rfl
end
structure Un (fs ex:List Addr) (H H':Hp) (h h':Heap):Prop where
 keep:∀ b o,h.get? b=some o->H b=none->b ∉ fs->b ∉ ex->h'.get? b=some o
 slot:∀ b o,h.get? b=some o->H b=none->b ∈ fs->b ∉ ex->∃ sl,h'.get? b=some { o with slots:=sl }
 free:∀ b o,h.get? b=some o->H b=none->b ∉ ex->H' b=none
 there:∀ b o,h.get? b=some o->b ∉ ex->∃ o',h'.get? b=some o'
 tups:∀ b xs,H b=some (.tup xs)->H' b=some (.tup xs)
 frzs:∀ b o u,H b=some (.aH o u)->H' b=some (.aH o u)
 tbls:∀ b ps,H b=some (.tbl ps)->∃ more,H' b=some (.tbl (ps++more))
section
variable {fs fs' ex ex':List Addr}{H H1 H2:Hp}{h h1 h2 h':Heap}{a x e:Addr}{o:HO}
def Un.any (u:Un fs ex H H1 h h1){ob:Obj}(q:h.get? b=some ob)(n:H b=none)(hx:b ∉ ex):∃ sl,h1.get? b=some { ob with slots:=sl }:=by
 by_cases hb:b ∈ fs
 .exact u.slot b ob q n hb hx
 .exact⟨ob.slots,u.keep b ob q n hb hx⟩
def Un.kept (k:∀ b u,h.get? b=some u->h'.get? b=some u):Un fs ex H H h h':=
 ⟨λb ob q _ _ _=>k b ob q,λb ob q _ _ _=>⟨ob.slots,k b ob q⟩,λ_ _ _ n _=>n,λb ob q _=>⟨ob,k b ob q⟩,λ_ _ q=>q,λ_ _ _ q=>q,λ_ ps q=>⟨#[],by rw[q];simp⟩⟩
def Un.refl:Un fs ex H H h h:=Un.kept λ_ _ q=>q
def Un.laid (k:∀ b u,h.get? b=some u->h'.get? b=some u) (hp:h.objs.size<=a) (hn:H a=none):Un fs ex H (upd H a o) h h' where
 keep:=λb u q _ _ _=>k b u q
 slot:=λb u q _ _ _=>⟨u.slots,k b u q⟩
 free:=λb u q n _=>by rw[ah (pc (nl (sK q) hp))];exact n
 there:=λb u q _=>⟨u,k b u q⟩
 tups:=λb xs q=>by rw[ah (aG q hn)];exact q
 frzs:=λb u xs q=>by rw[ah (aG q hn)];exact q
 tbls:=λb ps q=>⟨#[],by rw[ah (aG q hn),q];simp⟩
def Un.write (mu:Ca (H x))(he:e=x\/H e=some (.own x))(k:∀ b u,b≠e->h.get? b=some u->h'.get? b=some u) (heo:∃ u,h'.get? e=some u):Un fs ex H (upd H x o) h h':=by
 have hx:∀ b,H b=none->b≠x:=λb n z=>by subst z;rw[n]at mu;exact mu
 have hb:∀ b,H b=none->b≠e:=λb n z=>by
  subst z;rcases he with r|r
  .exact hx b n r
  .rw[n]at r;cases r
 have hm:∀ b u,H b=some u->¬ Ca (some u)->b≠x:=λb u q nm z=>by subst z;rw[q]at mu;exact nm mu
 refine⟨λb u q n _ _=>k b u (hb b n) q,λb u q n _ _=>⟨u.slots,k b u (hb b n) q⟩,λb u q n _=>by rw[ah (hx b n)];exact n,λb u q _=>?_,
  λb xs q=>by rw[ah (hm b _ q λz=>z)];exact q,λb u xs q=>by rw[ah (hm b _ q λz=>z)];exact q,λb ps q=>⟨#[],by rw[ah (hm b _ q λz=>z),q];simp⟩⟩
 by_cases hbe:b=e
 .subst hbe;exact heo
 .exact⟨u,k b u hbe q⟩
end
abbrev zj (h:Heap)(H:Hp):List Addr:=(List.range h.objs.size).filter λa=>(H a).isSome
abbrev kc (h:Heap)(H:Hp):Heap:=W.hideAll h (zj h H)
def qz (h:Heap)(H:Hp):(kc h H).objs.size=h.objs.size:=W.hideAll_size _ _
def tH {o:Obj}(e:h.get? b=some o)(n:H b=none):(kc h H).get? b=some o:=
 W.hideAll_get _ e λhm=>by
  have q:(H b).isSome=true:=(mem_filter.mp hm).2;rw[n]at q;simp at q
def wo {o:Obj}(e:(kc h H).get? b=some o):h.get? b=some o/\H b=none:=by
 have e':h.get? b=some o:=W.of_hideAll (zj h H) e;refine⟨e',?_⟩;cases q:H b with
 |none=>rfl
 |some x=>
  have hm:b ∈ zj h H:=mem_filter.mpr ⟨mem_range.mpr (sK e'),by simp[q]⟩;have z:(kc h H).get? b=none:=W.hideAll_none (zj h H) hm;rw[z]at e;cases e
structure Mod (K:W.Frag) (mg:GF) (base:Heap):Prop where
 kin:K.In base
 glob:base.Ns mainGlobals mg
 blt:∃ mb,base.Ns builtinsNs mb/\∀ x:Str,x≠"__name__"->mb x=bootBuiltins x
 nolimit:base.NoLimit
/-- the context:a def's body (or a comprehension's block) running. base:fixed through the whole law;s₀,H₀:the entry;outer:the frames whose slots others may change (a def's callers);stack:all frames that run;
  ex:iterators that were made ahead of the entry and are walked here (a comprehension's);fn:the names whose cells were made at the entry (a def:all;a comprehension's block:its own);calm:not within an except aW;pn:Y that every state bears;xe:what is wanted of an exception that leaves the code -/
structure Cx where
 prog:Program
 w:World
 K:W.Frag
 mg:Str->Option Value
 base:Heap
 A:Around
 N:List Str
 s₀:Shared
 H₀:Hp
 env:Env
 outer:List Env
 stack:List Env
 ex:List Addr
 fn:Str->Bool
 calm:Bool
 pn:List (Addr×Obj)
 xe:Value->Shared->Prop
abbrev kA (l:List Env):List Addr:=l.filterMap (·.frame)
noncomputable abbrev Cx.fs (X:Cx):List Addr:=kA X.outer
abbrev Dl (sc:Scope)(x:Str):Prop:=sc.names.lookup x=some .local\/sc.names.lookup x=some .cell\/sc.names.lookup x=some .free
abbrev Loc (sc:Scope)(x:Str):Prop:=sc.names.lookup x=some .local\/sc.names.lookup x=some .cell
abbrev Look (env:Env)(h:Heap)(m:GF)(x:Str)(u:Value):Prop:=
 (env.kindOf x=some .local/\m x=some u)\/((env.kindOf x=some .cell\/env.kindOf x=some .free)/\∃ c,env.cells.lookup x=some c/\h.IsCell c (some u))
structure Cx.Ok (X:Cx):Prop where
 mod:Mod X.K X.mg X.base
 kind:X.env.scope.kind=.function
 glob:X.env.globals=mainGlobals
 blt:X.env.builtins=builtinsNs
 above:X.s₀.heap.objs.size<=X.env.locals
 inj:∀ x y c,X.env.cells.lookup x=some c->X.env.cells.lookup y=some c->x=y
 has:∀ x,(X.env.kindOf x=some .cell\/X.env.kindOf x=some .free)->∃ c,X.env.cells.lookup x=some c
 cab:∀ x c,X.fn x=true->X.env.cells.lookup x=some c->X.s₀.heap.objs.size<=c
 hd:X.calm=true->X.A.handled=none
 frames:X.A.frames=some X.stack
 stk:X.stack=X.outer\/(X.stack=X.env::X.outer/\X.env.frame=some X.env.locals)
 exf:∀ b ∈ X.ex,b≠X.env.locals/\∀ x c,X.env.cells.lookup x=some c->c≠b
 bs:∀ b o,X.base.get? b=some o->X.s₀.heap.get? b=some o/\X.H₀ b=none
 bsz:X.base.objs.size<=X.s₀.heap.objs.size
 noex:∀ b o,X.base.get? b=some o->b ∉ X.ex
 exfs:∀ b ∈ X.ex,b ∉ X.fs
 gN:X.s₀.heap.FunFrames X.base X.outer
 frf:∀ b ∈ X.fs,X.H₀ b=none
structure Inv (X:Cx) (Y:GD) (U:List (Option V)) (H:Hp) (s:Shared):Prop where
 ok:X.Ok
 os:s.os=X.s₀.os
 bare:AllBare s.gens
 base:Un X.fs X.ex X.H₀ H X.s₀.heap s.heap
 loc:∃ m,s.heap.Ns X.env.locals m/\∀ (i:Nat) (x:Str) (v:V),X.N[i]? =some x->U[i]? =some (some v)->Dl X.env.scope x->∃ u,RelV v u/\Look X.env s.heap m x u
 cell:∀ x c,X.env.cells.lookup x=some c->∃ v,s.heap.IsCell c v
 free:H X.env.locals=none
 freeC:∀ x c,X.env.cells.lookup x=some c->H c=none
 pin:∀ p ∈ X.pn++Y,s.heap.get? p.1=some p.2/\H p.1=none/\p.1≠X.env.locals/\p.1 ∉ X.fs/\∀ v,p.2.data≠.cell v
 hok:dJ X.prog X.w H s.heap
 len:U.length=X.N.length
variable {x:Str}{g':Array GenState}{ch:List Addr}{i:Nat}{M:Model}{A:Around}{E:GC}{v:V}
section
variable {X:Cx}{Y:GD}{U:List (Option V)}{H H':Hp}{s:Shared}{h':Heap}
def Cx.Ok.EF (ok:X.Ok){o:Obj}(e:X.base.get? b=some o):b ∉ X.fs:=λhb=>by
 have:=(ok.gN.mem hb).1;rw[e]at this;cases this
def Inv.bs (I:Inv X Y U H s):∀ b o,X.base.get? b=some o->s.heap.get? b=some o/\H b=none:=λb o e=>
 ⟨I.base.keep b o (I.ok.bs b o e).1 (I.ok.bs b o e).2 (I.ok.EF e) (I.ok.noex b o e),I.base.free b o (I.ok.bs b o e).1 (I.ok.bs b o e).2 (I.ok.noex b o e)⟩
def Inv.bk (I:Inv X Y U H s):∀ b o,X.base.get? b=some o->s.heap.get? b=some o:=λb o e=>(I.bs b o e).1
def Inv.mod (I:Inv X Y U H s):Mod X.K X.mg X.base:=I.ok.mod
def Inv.bp (I:Inv X Y U H s):X.K.In s.heap:=I.ok.mod.kin.keeps I.bk
def Inv.lt (I:Inv X Y U H s):X.env.locals<s.heap.objs.size:=let⟨_,hn,_⟩:=I.loc;hn.lt
def Inv.sz (I:Inv X Y U H s):X.s₀.heap.objs.size<=s.heap.objs.size:=Nat.le_trans I.ok.above (Nat.le_of_lt I.lt)
def Inv.EN (I:Inv X Y U H s)(h:s.heap.objs.size<=a):a ∉ X.fs:=λhb=>by
 obtain⟨_,o,ho,_⟩:=I.ok.gN.mem hb;exact absurd (nl (sK ho) (Nat.le_trans I.sz h)) (Nat.lt_irrefl _)
def Inv.tX (I:Inv X Y U H s):∀ x c,X.env.cells.lookup x=some c->c≠X.env.locals:=λx c e z=>by
 obtain⟨v,o,ho,hd⟩:=I.cell x c e;obtain⟨m,⟨o',es,ep,ho',hd',_⟩,_⟩:=I.loc;rw[z,ho']at ho;cases ho;rw[hd']at hd;cases hd
def Inv.gN (I:Inv X Y U H s):s.heap.FunFrames X.base X.outer:=by
 have all:∀ (l:List Env),(∀ b ∈ kA l,b ∈ X.fs)->X.s₀.heap.FunFrames X.base l->s.heap.FunFrames X.base l:=by
  intro l
  induction l with
  |nil=>intro _ _;trivial
  |cons env r ih=>
   intro hs hl;obtain⟨hk,⟨L,o,hf,hn,ho,hd⟩,hr⟩:=hl;have hL:L ∈ X.fs:=hs L (by unfold kA;rw[filterMap_cons,hf];exact li);obtain⟨sl,e⟩:=I.base.slot L o ho (I.ok.frf L hL) hL λz=>I.ok.exfs L z hL
   exact⟨hk,⟨L,_,hf,hn,e,hd⟩,ih (λb hb=>hs b (by unfold kA;rw[filterMap_cons,hf];exact dl _ hb)) hr⟩
 exact all X.outer (λ_ hb=>hb) I.ok.gN
def Inv.stack (I:Inv X Y U H s):s.heap.FunFrames X.base X.stack:=by
 rcases I.ok.stk with e|⟨e,hf⟩
 .rw[e];exact I.gN
 .rw[e];obtain⟨m,hn,_⟩:=I.loc;refine .cons (by rw[I.ok.kind];decide) hf hn ?_ I.gN;exact Heap.get?_none_of_le (Nat.le_trans I.ok.bsz I.ok.above)
def Inv.f7 (I:Inv X Y U H s):∀ b ∈ kA X.stack,b ∈ X.env.locals::X.fs:=λb hb=>by
 rcases I.ok.stk with e|⟨e,hf⟩
 .rw[e]at hb;exact dl _ hb
 .rw[e]at hb;unfold kA at hb;rw[filterMap_cons,hf]at hb;exact hb
def Inv.j4 (I:Inv X Y U H s):∀ b ∈ kA X.stack,H b=none:=λb hb=>by
 rcases lv.mp (I.f7 b hb) with e|hb
 .rw[e];exact I.free
 .obtain⟨_,o,ho,_⟩:=I.ok.gN.mem hb;exact I.base.free b o ho (I.ok.frf b hb) λz=>I.ok.exfs b z hb
def Inv.step {t':Nat}{d':Drawn}(I:Inv X Y U H s)
  (hch:∀ b ∈ ch,(b ∈ X.ex\/X.s₀.heap.objs.size<=b)/\b≠X.env.locals/\(∀ x c,X.env.cells.lookup x=some c->c≠b)/\∀ p ∈ X.pn++Y,p.1≠b)
  (keep:∀ b o,b≠X.env.locals->b ∉ X.fs->b ∉ ch->s.heap.get? b=some o->H b=none->h'.get? b=some o)
  (slot:∀ b o,b≠X.env.locals->b ∈ X.fs->b ∉ ch->s.heap.get? b=some o->H b=none->∃ sl,h'.get? b=some { o with slots:=sl }) (free:∀ b o,b ∉ ch->s.heap.get? b=some o->H b=none->H' b=none)
  (there:∀ b o,b ∉ ch->s.heap.get? b=some o->∃ o',h'.get? b=some o')
  (tups:∀ b xs,H b=some (.tup xs)->H' b=some (.tup xs)) (frzs:∀ b o u,H b=some (.aH o u)->H' b=some (.aH o u)) (tbls:∀ b ps,H b=some (.tbl ps)->∃ more,H' b=some (.tbl (ps++more)))
  (ns:∀ m,s.heap.Ns X.env.locals m->h'.Ns X.env.locals m) (hok:dJ X.prog X.w H' h') (hg:AllBare g'):
  Inv X Y U H' { s with heap:=h',gens:=g',drawn:=d',toks:=t' }:=by
 have neL:∀ b o,X.s₀.heap.get? b=some o->b≠X.env.locals:=λb o e=>pc (nl (sK e) I.ok.above)
 have neC:∀ b o,X.s₀.heap.get? b=some o->b ∉ X.ex->b ∉ ch:=λb o e hx hb=>by
  rcases(hch b hb).1 with z|z
  .exact hx z
  .exact absurd (nl (sK e) z) (Nat.lt_irrefl _)
 have cellK:∀ x c,X.env.cells.lookup x=some c->∀ v,s.heap.IsCell c v->h'.IsCell c v:=λx c e v ⟨o,ho,hd⟩=>by
  have nch:c ∉ ch:=λz=>(hch c z).2.2.1 x c e rfl
  by_cases hc:c ∈ X.fs
  .obtain⟨sl,q⟩:=slot c o (I.tX x c e) hc nch ho (I.freeC x c e);exact⟨_,q,hd⟩
  .exact⟨o,keep c o (I.tX x c e) hc nch ho (I.freeC x c e),hd⟩
 refine⟨I.ok,I.os,hg,⟨λb o e n hb hx=>?_,λb o e n hb hx=>?_,λb o e n hx=>?_,λb o e hx=>?_,λb xs e=>tups b xs (I.base.tups b xs e),λb o xs e=>frzs b o xs (I.base.frzs b o xs e),λb ps e=>?_⟩,?_,λx c e=>?_,?_,λx c e=>?_,λp hp=>?_,hok,I.len⟩
 .exact keep b o (neL b o e) hb (neC b o e hx) (I.base.keep b o e n hb hx) (I.base.free b o e n hx)
 .obtain⟨sl,e1⟩:=I.base.slot b o e n hb hx;obtain⟨sl',e2⟩:=slot b _ (neL b o e) hb (neC b o e hx) e1 (I.base.free b o e n hx);exact⟨sl',e2⟩
 .obtain⟨o',e1⟩:=I.base.there b o e hx;exact free b o' (neC b o e hx) e1 (I.base.free b o e n hx)
 .obtain⟨o',e1⟩:=I.base.there b o e hx;exact there b o' (neC b o e hx) e1
 .obtain⟨m1,e1⟩:=I.base.tbls b ps e;obtain⟨m2,e2⟩:=tbls b _ e1;exact⟨m1++m2,by rw[e2,Array.append_assoc]⟩
 .obtain⟨m,hn,hl⟩:=I.loc;refine⟨m,ns m hn,λi x v e1 e2 e3=>?_⟩;obtain⟨u,r,l⟩:=hl i x v e1 e2 e3;refine⟨u,r,?_⟩;rcases l with l|⟨k,c,e,z⟩
  .exact .inl l
  .exact .inr ⟨k,c,e,cellK x c e _ z⟩
 .obtain⟨v,z⟩:=I.cell x c e;exact⟨v,cellK x c e v z⟩
 .obtain⟨m,⟨o,_,_,ho,_⟩,_⟩:=I.loc;exact free _ o (λz=>(hch _ z).2.1 rfl) ho I.free
 .obtain⟨v,o,ho,hd⟩:=I.cell x c e;exact free c o (λz=>(hch c z).2.2.1 x c e rfl) ho (I.freeC x c e)
 .obtain⟨e,n,ne,nf,d⟩:=I.pin p hp;have nch:p.1 ∉ ch:=λz=>(hch p.1 z).2.2.2 p hp rfl
  exact⟨keep p.1 p.2 ne nf nch e n,free p.1 p.2 nch e n,ne,nf,d⟩
def Inv.un {t':Nat}(I:Inv X Y U H s)(u:Un X.fs [] H H' s.heap h')(hok:dJ X.prog X.w H' h'):Inv X Y U H' { s with heap:=h',toks:=t' }:=by
 obtain⟨m,⟨o,es,ep,ho,r⟩,_⟩:=id I.loc;obtain⟨sl,hL⟩:=u.any ho I.free (by simp);exact I.step (g':=s.gens) (d':=s.drawn) (ch:=[]) (λ_ z=>nomatch z) (λb o _ hb _ e n=>u.keep b o e n hb (by simp)) (λb o _ hb _ e n=>u.slot b o e n hb (by simp)) (λb o _ e n=>u.free b o e n (by simp)) (λb o _ e=>u.there b o e (by simp)) u.tups u.frzs u.tbls (λm' hm=>by
  obtain⟨o',es',ep',ho',r'⟩:=hm;rw[ho]at ho';cases ho';exact⟨_,es',ep',hL,r'⟩) hok I.bare
def Inv.call {t':Nat}{d':Drawn}(I:Inv X Y U H s)(u:Un (kA X.stack) ch H H' s.heap h')(hok:dJ X.prog X.w H' h')(hg:AllBare g')
  (hch:∀ b ∈ ch,(b ∈ X.ex\/X.s₀.heap.objs.size<=b)/\b≠X.env.locals/\(∀ x c,X.env.cells.lookup x=some c->c≠b)/\∀ p ∈ X.pn++Y,p.1≠b):
  Inv X Y U H' { s with heap:=h',gens:=g',drawn:=d',toks:=t' }:=by
 obtain⟨m,⟨o,es,ep,ho,r⟩,_⟩:=id I.loc;obtain⟨sl,hL⟩:=u.any ho I.free λz=>(hch _ z).2.1 rfl
 exact I.step (ch:=ch) hch (λb o hL hb hc e n=>u.keep b o e n (λz=>(lv.mp (I.f7 b z)).elim hL hb) hc) (λb o _ _ hc e n=>u.any e n hc) (λb o hc e n=>u.free b o e n hc) (λb o hc e=>u.there b o e hc) u.tups u.frzs u.tbls (λm' hm=>by
  obtain⟨o',es',ep',ho',r'⟩:=hm;rw[ho]at ho';cases ho';exact⟨_,es',ep',hL,r'⟩) hok hg
def Inv.turned {t':Nat}{it:Addr}(I:Inv X Y U H s)(k:∀ b o,b≠it->s.heap.get? b=some o->h'.get? b=some o) (hn:H it=none) (hL:it≠X.env.locals)
  (h1:it ∈ X.ex\/X.s₀.heap.objs.size<=it) (h2:∀ x c,X.env.cells.lookup x=some c->c≠it) (h3:∀ p ∈ X.pn++Y,p.1≠it):Inv X Y U H { s with heap:=h',toks:=t' }:=by
 have nit:∀ b u,H b=some u->b≠it:=λb u e z=>by rw[z,hn]at e;cases e
 refine I.step (g':=s.gens) (d':=s.drawn) (ch:=[it]) (λb hb=>?_) (λb o _ _ hc e _=>k b o (λz=>hc (by simp[z])) e) (λb o _ _ hc e _=>⟨o.slots,k b o (λz=>hc (by simp[z])) e⟩) (λ_ _ _ _ n=>n)
  (λb o hc e=>⟨o,k b o (λz=>hc (by simp[z])) e⟩) (λ_ _ e=>e) (λ_ _ _ e=>e) (λb ps e=>⟨#[],by rw[e];simp⟩) (λm hm=>?_) (λb u e=>?_) I.bare
 .have e:b=it:=by simpa using hb
  subst e;exact⟨h1,hL,h2,h3⟩
 .obtain⟨o,es,ep,ho,r⟩:=hm;exact⟨o,es,ep,k _ o (Ne.symm hL) ho,r⟩
 .refine(I.hok b u e).eo (λc v hc q=>k c v ?_ q) (λ_ q=>q) λ_ _ q=>q
  rcases hc with z|z
  .rw[z];exact nit b u e
  .exact nit c _ z
def Inv.tok (I:Inv X Y U H s)(t:Nat):Inv X Y U H { s with toks:=t }:=I.un (h':=s.heap) (t':=t) Un.refl I.hok
def Inv.kept {t':Nat}(I:Inv X Y U H s)(k:∀ b u,s.heap.get? b=some u->h'.get? b=some u):Inv X Y U H { s with heap:=h',toks:=t' }:=I.un (Un.kept k) (I.hok.kept k)
def Inv.laid {t':Nat}(I:Inv X Y U H s)(k:∀ b u,s.heap.get? b=some u->h'.get? b=some u) (hp:s.heap.objs.size<=a) (new:aq X.prog X.w (upd H a o) h' a o):
  Inv X Y U (upd H a o) { s with heap:=h',toks:=t' }:=I.un (Un.laid k hp (I.hok.fresh hp)) (I.hok.laid k hp new)
def Inv.write {x e:Addr}{t':Nat}(I:Inv X Y U H s)(mu:Ca (H x))(he:e=x\/H e=some (.own x))(k:∀ b u,b≠e->s.heap.get? b=some u->h'.get? b=some u) (heo:∃ u,h'.get? e=some u)
  (new:aq X.prog X.w (upd H x o) h' x o):Inv X Y U (upd H x o) { s with heap:=h',toks:=t' }:=I.un (Un.write mu he k heo) (I.hok.write mu he k heo new)
def Inv.j7 {pins':GD}(I:Inv X Y U H s)(h:∀ p ∈ pins',s.heap.get? p.1=some p.2/\H p.1=none/\p.1≠X.env.locals/\p.1 ∉ X.fs/\∀ v,p.2.data≠.cell v):Inv X pins' U H s:=
 ⟨I.ok,I.os,I.bare,I.base,I.loc,I.cell,I.free,I.freeC,λp hp=>(mem_append.mp hp).elim (λz=>I.pin p (mem_append_left _ z)) (h p),I.hok,I.len⟩
def iD {N:List Str}(hN:N.Nodup){j:Nat}(a:N[i]? =some x)(b:N[j]? =some x):i=j:=by
 obtain⟨h1,e1⟩:=ss.mp a;obtain⟨h2,e2⟩:=ss.mp b;exact(List.getElem_inj hN).mp (e1.trans e2.symm)
variable {Q:GB}
def jI (I:Inv X Y U H s)(hN:X.N.Nodup)(hi:X.N[i]? =some x)(hx:Loc X.env.scope x)(r:RelV v u)
  (h:∀ s',Inv X Y (U.set i (some v)) H s'->(∃ a,Heap.SameBut a s.heap s'.heap/\(a=X.env.locals\/X.env.cells.lookup x=some a))->Q () s') (hf:X.fn x=true\/X.env.scope.names.lookup x=some .local:=by first|exact .inl rfl|exact .inr rfl|assumption):wpAny M A (storeName X.env x u) Q E s:=by
 obtain⟨m,hn,hl⟩:=id I.loc;have hcls:(X.env.scope.kind ==.class||(X.env.scope.kind ==.module&&X.env.locals != X.env.globals))=false:=by rw[I.ok.kind];rfl
 have hiσ:i<U.length:=by rw[I.len];exact(ss.mp hi).1
 have tX:=I.tX;have tracked:∀ {a:Addr}{h':Heap},(∃ o,s.heap.get? a=some o/\H a=none)->Heap.SameBut a s.heap h'->dJ X.prog X.w H h':=λ{a h'} ha hs b ob e=>by
  obtain⟨_,_,hfree⟩:=ha;refine(I.hok b ob e).eo (λc w' hc q=>(hs.2 c ?_).trans q) (λ_ q=>q) λ_ _ q=>q
  rintro rfl;rcases hc with rfl|hc
  .rw[hfree]at e;cases e
  .rw[hfree]at hc;cases hc
 rcases hx with hk|hk
 .refine wpAny_storeName_local hk hn (λh' hn' hs=>?_) hcls;obtain⟨oL,_,_,hoL,_⟩:=id hn;refine h _ ⟨I.ok,I.os,I.bare,⟨λb o e n hb hx=>?_,λb o e n hb hx=>?_,I.base.free,λb o e hx=>?_,I.base.tups,I.base.frzs,I.base.tbls⟩,⟨_,hn',λj y v' e1 e2 e3=>?_⟩,λy c e=>?_,I.free,I.freeC,λp hp=>?_,tracked ⟨oL,hoL,I.free⟩ hs,by simpa using I.len⟩ ⟨_,hs,.inl rfl⟩
  .exact(hs.2 b (pc (nl (sK e) I.ok.above))).trans (I.base.keep b o e n hb hx)
  .obtain⟨sl,e1⟩:=I.base.slot b o e n hb hx;exact⟨sl,(hs.2 b (pc (nl (sK e) I.ok.above))).trans e1⟩
  .obtain⟨o',e1⟩:=I.base.there b o e hx;exact⟨o',(hs.2 b (pc (nl (sK e) I.ok.above))).trans e1⟩
  .by_cases hj:j=i
   .subst hj;rw[hi]at e1;cases e1;rw[getElem?_set_self hiσ]at e2;cases e2;exact⟨u,r,.inl ⟨hk,by simp⟩⟩
   .rw[getElem?_set_ne (Ne.symm hj)]at e2;obtain⟨u',r',q⟩:=hl j y v' e1 e2 e3;refine⟨u',r',?_⟩;rcases q with⟨k,e⟩|⟨k,c,e,z⟩
    .refine .inl ⟨k,?_⟩;have:y≠x:=λe=>hj (iD hN e1 (e▸hi))
     simp[this,e]
    .exact .inr ⟨k,c,e,z.sameBut hs (tX y c e)⟩
  .obtain⟨w',z⟩:=I.cell y c e;exact⟨w',z.sameBut hs (tX y c e)⟩
  .obtain⟨e,n,ne,nf,d⟩:=I.pin p hp;exact⟨(hs.2 p.1 ne).trans e,n,ne,nf,d⟩
 .have hfn:X.fn x=true:=by
   rcases hf with z|z
   .exact z
   .rw[z]at hk;cases hk
  obtain⟨c,hc⟩:=I.ok.has x (.inl hk);obtain⟨w',z⟩:=I.cell x c hc;refine wpAny_storeName_cell I.ok.kind hk hc z (λh' hc' hs=>?_);obtain⟨oc,hoc,hocd⟩:=id z;refine h { s with heap:=h' } ⟨I.ok,I.os,I.bare,⟨λb o e n hb hx=>?_,λb o e n hb hx=>?_,I.base.free,λb o e hx=>?_,I.base.tups,I.base.frzs,I.base.tbls⟩,⟨m,hn.sameBut hs (Ne.symm (tX x c hc)),λj y v' e1 e2 e3=>?_⟩,λy c' e=>?_,I.free,I.freeC,λp hp=>?_,tracked ⟨oc,hoc,I.freeC x c hc⟩ hs,by simpa using I.len⟩ ⟨c,hs,.inr hc⟩
  .exact(hs.2 b (pc (nl (sK e) (I.ok.cab x c hfn hc)))).trans (I.base.keep b o e n hb hx)
  .obtain⟨sl,e1⟩:=I.base.slot b o e n hb hx;exact⟨sl,(hs.2 b (pc (nl (sK e) (I.ok.cab x c hfn hc)))).trans e1⟩
  .obtain⟨o',e1⟩:=I.base.there b o e hx;exact⟨o',(hs.2 b (pc (nl (sK e) (I.ok.cab x c hfn hc)))).trans e1⟩
  .by_cases hj:j=i
   .subst hj;rw[hi]at e1;cases e1;rw[getElem?_set_self hiσ]at e2;cases e2;exact⟨u,r,.inr ⟨.inl hk,c,hc,hc'⟩⟩
   .rw[getElem?_set_ne (Ne.symm hj)]at e2;obtain⟨u',r',q⟩:=hl j y v' e1 e2 e3;refine⟨u',r',?_⟩;rcases q with q|⟨k,c',e,z'⟩
    .exact .inl q
    .refine .inr ⟨k,c',e,z'.sameBut hs ?_⟩;rintro rfl;exact hj (iD hN e1 (I.ok.inj _ _ _ e hc▸hi))
  .by_cases hcc:c'=c
   .subst hcc;exact⟨_,hc'⟩
   .obtain⟨w2,z2⟩:=I.cell y c' e;exact⟨w2,z2.sameBut hs hcc⟩
  .obtain⟨e,n,ne,nf,d⟩:=I.pin p hp;refine⟨(hs.2 p.1 ?_).trans e,n,ne,nf,d⟩;intro q;rw[q,hoc]at e;have q':oc=p.2:=Option.some.inj e;exact d w' (by rw[<-q'];exact hocd)
def c7 (I:Inv X Y U H s)(hN:X.N.Nodup)(hi:X.N[i]? =some x)(hx:Loc X.env.scope x)(r:RelV v u)
  (h:∀ s',Inv X Y (U.set i (some v)) H s'->Q () s') (hf:X.fn x=true\/X.env.scope.names.lookup x=some .local:=by first|exact .inl rfl|exact .inr rfl|assumption):wpAny M A (storeName X.env x u) Q E s:=
 jI I hN hi hx r (λs' I' _=>h s' I') hf
def Inv.uD {s':Shared}(I:Inv X Y U H s)(ho:s'.os=s.os)(u:Un (kA X.stack) ch H H' s.heap s'.heap)(hok:dJ X.prog X.w H' s'.heap)(hg:AllBare s'.gens)
  (hch:∀ b ∈ ch,(b ∈ X.ex\/X.s₀.heap.objs.size<=b)/\b≠X.env.locals/\(∀ x c,X.env.cells.lookup x=some c->c≠b)/\∀ p ∈ X.pn++Y,p.1≠b):Inv X Y U H' s':=by
 obtain⟨h',g',d',t',o'⟩:=s';have e:o'=s.os:=ho;subst e;exact I.call (g':=g') (t':=t') (d':=d') u hok hg hch
end
@[reducible]def XK:=Addr->Hp->Prop
@[reducible]def St:=List (Option V)
@[reducible]def VK:=V->Hp->Prop
@[reducible]def TE:=St->Hp->VK->Prop
@[reducible]def TT:=St->Hp->(Bool->Hp->Prop)->Prop
@[reducible]def TA:=St->Hp->(List V->Hp->Prop)->Prop
structure Ends where
 nx:St->Hp->Prop
 rt:VK
 bk:St->Hp->Prop:=λ_ _=>False
 ct:St->Hp->Prop:=λ_ _=>False
@[reducible]def TS:=Ends->St->Hp->Prop
abbrev EP (X:Cx)(Y:GD)(U:St)(Q:VK)(u:Value)(s':Shared):Prop:=∃ v H',Inv X Y U H' s'/\RelV v u/\Q v H'
abbrev TP (X:Cx)(Y:GD)(U:St)(Q:Bool->Hp->Prop)(b:Bool)(s':Shared):Prop:=∃ H',Inv X Y U H' s'/\Q b H'
abbrev AP (X:Cx)(Y:GD)(U:St)(Q:List V->Hp->Prop)(us:List Value)(s':Shared):Prop:=∃ vs H',Inv X Y U H' s'/\Vals vs us/\Q vs H'
abbrev SP (X:Cx)(Y:GD)(D:Ends)(f:Flow)(s':Shared):Prop:=
 match f with
 | .next=>∃ σ' H',Inv X Y σ' H' s'/\D.nx σ' H'
 | .brk=>∃ σ' H',Inv X Y σ' H' s'/\D.bk σ' H'
 | .cont=>∃ σ' H',Inv X Y σ' H' s'/\D.ct σ' H'
 | .ret u=>∃ v σ' H',Inv X Y σ' H' s'/\RelV v u/\D.rt v H'
abbrev PE (X:Cx)(e:Expr)(t:TE):Prop:=
 ∀ (Y:GD) (s:Shared) (U:St) (H:Hp) (Q:VK),Inv X Y U H s->t U H Q->wpAny (model X.prog X.w) X.A (eval e X.env) (EP X Y U Q) X.xe s
abbrev PT (X:Cx)(e:Expr)(t:TT):Prop:=
 ∀ (Y:GD) (s:Shared) (U:St) (H:Hp) (Q:Bool->Hp->Prop),Inv X Y U H s->t U H Q->wpAny (model X.prog X.w) X.A (isTrue e X.env (eval e X.env)) (TP X Y U Q) X.xe s
abbrev PW (X:Cx)(e:Expr)(t:TT):Prop:=
 ∀ (whole:Sem Value) (Y:GD) (s:Shared) (U:St) (H:Hp) (Q:Bool->Hp->Prop),Inv X Y U H s->t U H Q->wpAny (model X.prog X.w) X.A (isTrue e X.env whole) (TP X Y U Q) X.xe s
variable {e:Expr}
def PW.pt {X:Cx}{t:TT}(h:PW X e t):PT X e t:=h _
abbrev PA (X:Cx)(es:List Expr)(t:TA):Prop:=
 ∀ (pos:Pos) (Y:GD) (s:Shared) (U:St) (H:Hp) (Q:List V->Hp->Prop),Inv X Y U H s->t U H Q->wpAny (model X.prog X.w) X.A (spliced (backTo pos (bm es X.env))) (AP X Y U Q) X.xe s
abbrev PS (X:Cx)(st:Stmt)(t:TS):Prop:=
 ∀ (Y:GD) (s:Shared) (U:St) (H:Hp) (D:Ends),Inv X Y U H s->t D U H->wpAny (model X.prog X.w) X.A (exec st X.env) (SP X Y D) X.xe s
abbrev yD (X:Cx)(st:List Stmt)(t:TS):Prop:=
 ∀ (Y:GD) (s:Shared) (U:St) (H:Hp) (D:Ends),Inv X Y U H s->t D U H->wpAny (model X.prog X.w) X.A (execs st X.env) (SP X Y D) X.xe s
variable {s:Shared}
def aB {α:Type}{t:Sem α}{Q Q':α->Shared->Prop}(h:wpAny M A t Q E s)(hQ:∀ a s,Q a s->Q' a s):wpAny M A t Q' E s:=wpAny_mono h hQ λ_ _ x=>x
variable {Q:GC}{Y:GD}{U:St}
section
variable {X:Cx}
abbrev Ew (i:Nat):TE:=λU H Q=>∃ v,U[i]? =some (some v)/\Q v H
abbrev tC (v:V):TE:=λ_ H Q=>Q v H
def zT {pos:Pos}(hN:X.N[i]? =some x)(hv:Dl X.env.scope x)(hd:(x ==("__debug__":Str))=false:=by decide) (hcd:(x ==("__classdict__":Str))=false:=by decide):PE X (.Name x pos) (Ew i):=by
 intro Y s U H Q I h;obtain⟨v,e,h⟩:=h;obtain⟨m,hn,hl⟩:=I.loc;obtain⟨u,r,l⟩:=hl i x v hN e hv;have fin:EP X Y U Q u s:=⟨v,H,I,r,h⟩;rcases l with⟨hk,hm⟩|⟨hk,c,hc,hcell⟩
 .exact wpAny_Name (wpAny_loadName_local I.ok.kind hk hn hm fin) hd
 .rcases hk with hk|hk
  .exact wpAny_Name (wpAny_loadName_cell I.ok.kind hk hc hcell fin) hd
  .exact wpAny_Name (wpAny_loadName_free I.ok.kind hk hc hcell fin hcd) hd
def AO {i j pos}:PE X (.Constant (.int i) j pos) (tC (.int i)):=λ_ _ _ H _ I h=>wpAny_Constant_int ⟨.int i,H,I.tok _,⟨_,rfl⟩,h⟩
def Dp {b j pos}:PE X (.Constant (.bool b) j pos) (tC (.bl b)):=λ_ _ _ H _ I h=>Constant_bool ⟨.bl b,H,I,rfl,h⟩
def Bc {j pos}:PE X (.Constant .none j pos) (tC .non):=λ_ _ _ H _ I h=>Constant_none ⟨.non,H,I,rfl,h⟩
def uq {x j pos}:PE X (.Constant (.str x) j pos) (tC (.str x)):=λ_ _ _ H _ I h=>Calls.Constant_str ⟨.str x,H,I.tok _,⟨_,rfl⟩,h⟩
abbrev Gl (X:Cx)(x:Str):Prop:=X.env.kindOf x=some .globalImplicit
def aY {pos:Pos}(I:Inv X Y U H s)(hg:Gl X x)(hm:X.mg x=some u)(h:Q u s)
  (hd:(x ==("__debug__":Str))=false:=by decide):wpAny (model X.prog X.w) X.A (eval (.Name x pos) X.env) Q E s:=
 Calls.Name_function_global I.ok.kind hg (Calls.loadGlobal_global (by rw[I.ok.glob];exact I.mod.glob.keeps I.bk) hm h) hd
def hJ {pos:Pos}(I:Inv X Y U H s)(hg:Gl X x)(hm:X.mg x=none)(hv:bootBuiltins x=some u)(h:Q u s)
  (hn:x≠"__name__":=by decide) (hd:(x ==("__debug__":Str))=false:=by decide):wpAny (model X.prog X.w) X.A (eval (.Name x pos) X.env) Q E s:=by
 obtain⟨mb,h1,h2⟩:=I.mod.blt;exact Calls.Name_function_global I.ok.kind hg (Calls.loadGlobal_builtin (by rw[I.ok.glob];exact I.mod.glob.keeps I.bk) hm (by rw[I.ok.blt];exact h1.keeps I.bk) ((h2 x hn).trans hv) h) hd
def kS {pos:Pos}(hg:Gl X x)(hm:X.mg x=some u)(r:RelV v u)(hd:(x ==("__debug__":Str))=false:=by decide):PE X (.Name x pos) (tC v):=
 λ_ _ _ H _ I h=>aY I hg hm ⟨v,H,I,r,h⟩ hd
def ym {pos:Pos}(hg:Gl X x)(hm:X.mg x=none)(hv:bootBuiltins x=some u)(r:RelV v u)(hn:x≠"__name__":=by decide) (hd:(x ==("__debug__":Str))=false:=by decide):PE X (.Name x pos) (tC v):=
 λ_ _ _ H _ I h=>hJ I hg hm hv ⟨v,H,I,r,h⟩ hn hd
variable {a b:Expr}{ta tb:TE}{pos:Pos}
variable {tA tB':TT}{rest:List Expr}
abbrev EB (t u:TT):TT:=λU H Q=>t U H λc H1=>if c=true then u U H1 Q else Q false H1
abbrev F7 (t u:TT):TT:=λU H Q=>t U H λc H1=>if c=true then Q true H1 else u U H1 Q
abbrev Es (t:TT):TT:=λU H Q=>t U H λc H1=>Q (!c) H1
def wJ (ha:PT X a tA):PW X (.BoolOp .And [a] pos) tA:=by
 intro wh Y s U H Q I h;refine isTrue_and (aB (ha Y s U H Q I h) λc s1 e=>?_);cases c with
 |true=>exact isTrue_and_nil e
 |false=>exact e
def z0 (ha:PT X a tA):PW X (.BoolOp .Or [a] pos) tA:=by
 intro wh Y s U H Q I h;refine isTrue_or (aB (ha Y s U H Q I h) λc s1 e=>?_);cases c with
 |false=>exact isTrue_or_nil e
 |true=>exact e
def AQ (ha:PT X a tA)(hb:PW X (.BoolOp .And (b::rest) pos) tB'):PW X (.BoolOp .And (a::b::rest) pos) (EB tA tB'):=by
 intro wh Y s U H Q I h;refine isTrue_and (aB (ha Y s U H _ I h) λc s1 ⟨H1,I1,q1⟩=>?_);cases c with
 |true=>exact hb wh Y s1 U H1 Q I1 q1
 |false=>exact⟨H1,I1,q1⟩
def CL (ha:PT X a tA)(hb:PW X (.BoolOp .Or (b::rest) pos) tB'):PW X (.BoolOp .Or (a::b::rest) pos) (F7 tA tB'):=by
 intro wh Y s U H Q I h;refine isTrue_or (aB (ha Y s U H _ I h) λc s1 ⟨H1,I1,q1⟩=>?_);cases c with
 |true=>exact⟨H1,I1,q1⟩
 |false=>exact hb wh Y s1 U H1 Q I1 q1
def Ar (ha:PT X a tA):PT X (.UnaryOp .Not a pos) (Es tA):=by
 intro Y s U H Q I h;exact isTrue_not (ha Y s U H (λc H1=>Q (!c) H1) I h)
abbrev DJ (ta tb:TE):TE:=λU H Q=>ta U H λx H1=>∃ c,x=.bl c/\if c=true then tb U H1 Q else Q (.bl false) H1
abbrev Eg (ta tb:TE):TE:=λU H Q=>ta U H λx H1=>∃ c,x=.bl c/\if c=true then Q (.bl true) H1 else tb U H1 Q
abbrev Ct (ta:TE):TE:=λU H Q=>ta U H λx H1=>∃ c,x=.bl c/\Q (.bl (!c)) H1
def vC {op}{t:TE}(h:PE X a t):PE X (.BoolOp op [a] pos) t:=λY s U H Q I hw=>BoolOp_one (h Y s U H Q I hw)
def Ax (ha:PE X a ta)(hb:PE X (.BoolOp .And (b::rest) pos) tb):PE X (.BoolOp .And (a::b::rest) pos) (DJ ta tb):=by
 intro Y s U H Q I h;refine BoolOp_and (aB (ha Y s U H _ I h) λv s1 ⟨x,H1,I1,r1,q1⟩=>?_);obtain⟨c,rfl,q1⟩:=q1;cases r1;refine bi ?_;cases c with
 |true=>exact hb Y s1 U H1 Q I1 q1
 |false=>exact⟨.bl false,H1,I1,rfl,q1⟩
def Di (ha:PE X a ta)(hb:PE X (.BoolOp .Or (b::rest) pos) tb):PE X (.BoolOp .Or (a::b::rest) pos) (Eg ta tb):=by
 intro Y s U H Q I h;refine BoolOp_or (aB (ha Y s U H _ I h) λv s1 ⟨x,H1,I1,r1,q1⟩=>?_);obtain⟨c,rfl,q1⟩:=q1;cases r1;refine bi ?_;cases c with
 |false=>exact hb Y s1 U H1 Q I1 q1
 |true=>exact⟨.bl true,H1,I1,rfl,q1⟩
def BO (ha:PE X a ta):PE X (.UnaryOp .Not a pos) (Ct ta):=by
 intro Y s U H Q I h;refine UnaryOp_ (aB (ha Y s U H _ I h) λv s1 ⟨x,H1,I1,r1,q1⟩=>?_);obtain⟨c,rfl,q1⟩:=q1;cases r1;exact not_of (bi ⟨.bl (!c),H1,I1,rfl,q1⟩)
abbrev FH (t:TT)(ta tb:TE):TE:=λU H Q=>t U H λc H1=>if c=true then ta U H1 Q else tb U H1 Q
def sX {c:Expr}(hc:PT X c tA)(ha:PE X a ta)(hb:PE X b tb):PE X (.IfExp c a b pos) (FH tA ta tb):=by
 intro Y s U H Q I h;refine wpAny_IfExp (aB (hc Y s U H _ I h) λd s1 ⟨H1,I1,q1⟩=>?_);cases d with
 |true=>exact ha Y s1 U H1 Q I1 q1
 |false=>exact hb Y s1 U H1 Q I1 q1
end
abbrev aF (K:W.Frag)(H:Hp)(a:Addr)(xs:List V):Prop:=
 Rd H a (.lst xs)\/
  ∃ (o:Obj) (its:Array Value) (n:Nat),K.lookup a=some o/\o.cls=.type "list"/\o.dict=none/\o.data=.seq its n/\its.size<=bn/\Vals xs its.toList
abbrev bF (K:W.Frag)(H:Hp)(a:Addr)(xs:List V):Prop:=
 Rd H a (.tup xs)\/
  ∃ (o:Obj) (its:Array Value) (n:Nat),K.lookup a=some o/\o.cls=.type "tuple"/\o.data=.seq its n/\its.size<=bn/\Vals xs its.toList
abbrev Ay:Value->Option V
 | .none=>some .non
 | .bool b=>some (.bl b)
 | .int i _=>some (.int i)
 | .str x _=>some (.str x)
 | .bytes b _=>some (.byt b)
 | .float b _=>some (.flt b)
 | .ref a=>some (.ref a)
 | .type n=>some (.ty n)
 |_=>none
def RelV.abs {x:V}(r:RelV x u):Ay u=some x:=by
 cases x with
 |non=>cases r;rfl
 |bl _=>cases r;rfl
 |int _=>obtain⟨t,rfl⟩:=r;rfl
 |str _=>obtain⟨t,rfl⟩:=r;rfl
 |byt _=>obtain⟨t,rfl⟩:=r;rfl
 |flt _=>obtain⟨t,rfl⟩:=r;rfl
 |ref _=>cases r;rfl
 |ty _=>cases r;rfl
def RelV.inj {x y:V}(r:RelV x u)(q:RelV y u):x=y:=Option.some.inj (r.abs.symm.trans q.abs)
def Vals.inj:∀ {xs ys:List V}{us:List Value},Vals xs us->Vals ys us->xs=ys
 |_,_,_,.nil,.nil=>rfl
 |_,_,_,.cons r t,.cons r' t'=>by rw[r.inj r',Vals.inj t t']
variable {K:W.Frag}
section
variable {X:Cx}{Y:GD}{U:St}{H:Hp}{s:Shared}{a:Addr}{xs ys:List V}
def aF.of (h:H a=some (.lst xs)):aF K H a xs:=.inl (.inl h)
def bF.of (h:H a=some (.tup xs)):bF K H a xs:=.inl (.inl h)
def Inv.list (I:Inv X Y U H s)(h:aF X.K H a xs):∃ its:List Value,Vals xs its/\PlainL s.heap a its.toArray/\xs.length<=bn:=by
 rcases h with h|⟨o,its,n,hk,hc,hd,hs,hz,r⟩
 .obtain⟨z,its,n,r,e⟩:=h.ok I.hok;exact⟨its,r,⟨_,n,e,rfl,rfl,rfl⟩,z⟩
 .refine⟨its.toList,r,⟨o,n,I.bp a o hk,hc,hd,by simpa using hs⟩,?_⟩;have e:=r.length;simp only[Array.length_toList]at e
  omega
def Inv.tuple (I:Inv X Y U H s)(h:bF X.K H a xs):∃ its:List Value,Vals xs its/\IsTup s.heap a its.toArray/\xs.length<=bn:=by
 rcases h with h|⟨o,its,n,hk,hc,hs,hz,r⟩
 .obtain⟨z,its,r,p⟩:=h.ok I.hok;exact⟨its,r,p,z⟩
 .refine⟨its.toList,r,⟨o,I.bp a o hk,hc,n,by simpa using hs⟩,?_⟩;have e:=r.length;simp only[Array.length_toList]at e
  omega
def Inv.eW (I:Inv X Y U H s)(h:aF X.K H a xs)(h':aF X.K H a ys):xs=ys:=by
 obtain⟨its,r,⟨o,n,e,_,_,d⟩,_⟩:=I.list h;obtain⟨its',r',⟨o',n',e',_,_,d'⟩,_⟩:=I.list h';rw[e]at e';cases e';rw[d]at d'
 injection d' with d1 _
 have:its=its':=by simpa using congrArg Array.toList d1
 subst this;exact r.inj r'
def Inv.jQ (I:Inv X Y U H s)(h:bF X.K H a xs)(h':bF X.K H a ys):xs=ys:=by
 obtain⟨its,r,⟨o,e,_,n,d⟩,_⟩:=I.tuple h;obtain⟨its',r',⟨o',e',_,n',d'⟩,_⟩:=I.tuple h';rw[e]at e';cases e';rw[d]at d'
 injection d' with d1 _
 have:its=its':=by simpa using congrArg Array.toList d1
 subst this;exact r.inj r'
end
section
variable {X:Cx}{Y:GD}{U:St}{H:Hp}{s:Shared}{E:GC}
end
section
variable {X:Cx}{st:Stmt}{rest:List Stmt}{t u:TS}{e:Expr}{te:TE}{pos:Pos}
abbrev Co:TS:=λD U H=>D.nx U H
abbrev EH (t u:TS):TS:=λD U H=>t { D with nx:=u D } U H
def wa:yD X [] Co:=λ_ _ U H _ I h=>wpAny_execs_nil ⟨U,H,I,h⟩
def t5 (h1:PS X st t)(h2:yD X rest u):yD X (st::rest) (EH t u):=by
 intro Y s U H D I h;refine wpAny_execs_cons (aB (h1 Y s U H { D with nx:=u D } I h) λf s1 q=>?_);cases f with
 |next=>
  obtain⟨σ',H',I',q⟩:=q;exact h2 Y s1 σ' H' D I' q
 |ret v=>exact q
 |brk=>exact q
 |cont=>exact q
def Inv.quiet (I:Inv X Y U H s):interactive X.env=false:=by simp[interactive,I.ok.kind]
abbrev Cq (te:TE):TS:=λD U H=>te U H λ_ H1=>D.nx U H1
def vX (he:PE X e te)(hs:swapsWith e none pos.line X.env=pure false:=by rfl):PS X (.Expr e pos) (Cq te):=by
 intro Y s U H D I h;exact wpAny_Expr_any (aB (he Y s U H _ I h) λv s1 ⟨x,H1,I1,r1,q1⟩=>⟨U,H1,I1,q1⟩) I.quiet hs
abbrev En (te:TE):TS:=λD U H=>te U H D.rt
def Ai (he:PE X e te):PS X (.Return (some e) pos) (En te):=by
 intro Y s U H D I h;exact wpAny_Return_some (aB (he Y s U H _ I h) λv s1 ⟨x,H1,I1,r1,q1⟩=>⟨x,U,H1,I1,r1,q1⟩)
abbrev Ey (c:TT)(t u:TS):TS:=λD U H=>c U H λb H1=>if b=true then t D U H1 else u D U H1
def Cb {c:Expr}{a b:List Stmt}{tc:TT}(hc:PT X c tc)(ha:yD X a t)(hb:yD X b u):PS X (.If c a b pos) (Ey tc t u):=by
 intro Y s U H D I h;refine wpAny_If (aB (hc Y s U H _ I h) λd s1 ⟨H1,I1,q1⟩=>?_);cases d with
 |true=>exact ha Y s1 U H1 D I1 q1
 |false=>exact hb Y s1 U H1 D I1 q1
end
@[reducible]def TG:=V->St->Hp->(St->Hp->Prop)->Prop
@[reducible]def yk:=List V->St->Hp->(St->Hp->Prop)->Prop
abbrev PG (X:Cx)(target:Expr)(t:TG):Prop:=
 ∀ (Y:GD) (s:Shared) (U:St) (H:Hp) (v:V) (u:Value) (Q:St->Hp->Prop),Inv X Y U H s->RelV v u->t v U H Q->
  wpAny (model X.prog X.w) X.A (assign target X.env u) (λ_ s'=>∃ σ' H',Inv X Y σ' H' s'/\Q σ' H') X.xe s
abbrev AK (X:Cx)(ts:List Expr)(t:yk):Prop:=
 ∀ (Y:GD) (s:Shared) (U:St) (H:Hp) (vs:List V) (us:List Value) (Q:St->Hp->Prop),Inv X Y U H s->Vals vs us->t vs U H Q->
  wpAny (model X.prog X.w) X.A (assignInOrder ((assignEach ts X.env).map (·.2)) us) (λ_ s'=>∃ σ' H',Inv X Y σ' H' s'/\Q σ' H') X.xe s
@[reducible]def qD:=V->V->V->Hp->(Hp->Prop)->Prop
abbrev yh (X:Cx)(t:qD):Prop:=
 ∀ (Y:GD) (s:Shared) (U:St) (H:Hp) (o i v:V) (ov iv u:Value) (Q:Hp->Prop),Inv X Y U H s->RelV o ov->RelV i iv->RelV v u->t o i v H Q->
  wpAny (model X.prog X.w) X.A (setItem ov iv u) (λ_ s'=>∃ H',Inv X Y U H' s'/\Q H') X.xe s
@[reducible]def BY:=V->V->Hp->VK->Prop
abbrev CW (X:Cx)(op:Operator)(t:BY):Prop:=
 ∀ (Y:GD) (s:Shared) (U:St) (H:Hp) (x y:V) (v u:Value) (Q:VK),Inv X Y U H s->RelV x v->RelV y u->t x y H Q->
  wpAny (model X.prog X.w) X.A (inplaceOp op v u) (EP X Y U Q) X.xe s
variable {es:List Expr}{k:Nat}{tg:Expr}{te:TE}{pos':Pos}{op:Operator}
section
variable {X:Cx}{pos:Pos}
abbrev eP (i:Nat):TG:=λv U H Q=>Q (U.set i (some v)) H
def fK (hN:X.N.Nodup)(hi:X.N[i]? =some x)(hx:Loc X.env.scope x)(hf:X.fn x=true\/X.env.scope.names.lookup x=some .local:=by first|exact .inl rfl|exact .inr rfl|assumption):PG X (.Name x pos) (eP i):=by
 intro Y s U H v u Q I r h;exact wpAny_assign_Name (c7 I hN hi hx r (λs' I'=>⟨_,H,I',h⟩) hf)
abbrev E5:yk:=λvs U H Q=>vs=[]/\Q U H
abbrev Cg (t:TG)(u:yk):yk:=λvs U H Q=>∃ v r,vs=v::r/\t v U H λσ' H'=>u r σ' H' Q
def kf:AK X [] E5:=by
 intro Y s U H vs us Q I r h;obtain⟨e,h⟩:=h;subst e;cases r;exact assignInOrder_nil ⟨U,H,I,h⟩
def eC {t:TG}{u:yk}(h1:PG X e t)(h2:AK X es u)
  (hs:(assignEach (e::es) X.env).map (·.2)=assign e X.env::(assignEach es X.env).map (·.2):=by rfl):AK X (e::es) (Cg t u):=by
 intro Y s U H vs us Q I r h;obtain⟨v,vr,e1,h⟩:=h;subst e1;cases r with
 |cons r rr=>
  rw[hs];refine assignInOrder_cons (aB (h1 Y s U H _ _ _ I r h) λ_ s1 ⟨σ1,H1,I1,q1⟩=>?_);exact h2 Y s1 σ1 H1 _ _ Q I1 rr q1
abbrev wK (K:W.Frag)(n:Nat)(t:yk):TG:=λv U H Q=>∃ a xs,v=.ref a/\bF K H a xs/\xs.length=n/\t xs U H Q
def kh {t:yk}{n:Nat}(hc:X.calm=true)(h:AK X es t)
  (hn:(assignEach es X.env).length=n:=by rfl) (hst:(assignEach es X.env).findIdx? (·.1)=none:=by rfl):PG X (.Tuple es k pos) (wK X.K n t):=by
 intro Y s U H v u Q I r hw;obtain⟨a,xs,e1,hq,hl,hw⟩:=hw;subst e1;cases r;obtain⟨its,rv,ht,hz⟩:=I.tuple hq;refine assign_Tuple_tuple (I.ok.hd hc) ht (by simp[hn,<-hl,rv.length]) hst λh' hx=>?_
 have I1:Inv X Y U H { s with heap:=h' }:=I.kept (t':=s.toks) λb o e=>hx b o (pc (sK e)) e
 exact h Y _ U H xs _ Q I1 (by simpa using rv) hw
abbrev EX (to ti:TE)(t:qD):TG:=λv U H Q=>to U H λo H1=>ti U H1 λi H2=>t o i v H2 λH3=>Q U H3
def AZ {o i:Expr}{to ti:TE}{t:qD}(ho:PE X o to)(hi:PE X i ti)(hs:yh X t)
  (ha:∀ v,assign (.Subscript o i pos) X.env v=(do
   let ov <-holding [v] (eval o X.env)
   let iv <-holding [v,ov] (eval i X.env)
   standAt pos
   holding [v,ov,iv] (setItem ov iv v)
   release [v,ov,iv] []):=by intro _;rfl):PG X (.Subscript o i pos) (EX to ti t):=by
 intro Y s U H v u Q I r h;rw[ha];refine ad (bd (aB (ho Y s U H _ I h) λov s1 ⟨x,H1,I1,r1,q1⟩=>?_));refine ad (bd (aB (hi Y s1 U H1 _ I1 q1) λiv s2 ⟨y,H2,I2,r2,q2⟩=>?_));refine ad (wpAny_standAt (ad (bd (aB (hs Y s2 U H2 x y v ov iv u _ I2 r1 r2 r q2) λ_ s3 ⟨H3,I3,q3⟩=>?_))));exact wpAny_release ⟨U,H3,I3,q3⟩
abbrev Dw (te:TE)(g:TG):TS:=λD U H=>te U H λx H1=>g x U H1 D.nx
def Bq {g:TG}(he:PE X e te)(hg:PG X tg g)(hs:swapsWithSole [tg] e pos.line X.env=pure false:=by rfl) (hw:swappedStores [tg] e X.env=pure none:=by rfl)
  (h1:(assignEach [tg] X.env).map (·.2)=[assign tg X.env]:=by rfl):PS X (.Assign [tg] e pos) (Dw te g):=by
 intro Y s U H D I h;refine wpAny_Assign_stores (aB (he Y s U H _ I h) λv s1 ⟨x,H1,I1,r1,q1⟩=>?_) hs hw;rw[h1];exact aB (hg Y s1 U H1 x v _ I1 r1 q1) λ_ s2 q=>q
def ub (hN:X.N.Nodup)(hi:X.N[i]? =some x)(hx:Loc X.env.scope x)(he:PE X e te)(hs:swapsWith e (some (.Name x pos')) pos.line X.env=pure false:=by rfl) (hf:X.fn x=true\/X.env.scope.names.lookup x=some .local:=by first|exact .inl rfl|exact .inr rfl|assumption):
  PS X (.Assign [.Name x pos'] e pos) (Dw te (eP i)):=by
 intro Y s U H D I h;refine wpAny_Assign_Name (aB (he Y s U H _ I h) λv s1 ⟨y,H1,I1,r1,q1⟩=>?_) hs;exact c7 I1 hN hi hx r1 (λs2 I2=>⟨_,H1,I2,q1⟩) hf
abbrev EU (i:Nat)(te:TE)(ti:BY):TS:=λD U H=>∃ x,U[i]? =some (some x)/\te U H λy H1=>ti x y H1 λz H2=>D.nx (U.set i (some z)) H2
def BN {ti:BY}(hN:X.N.Nodup)(hi:X.N[i]? =some x)(hx:Loc X.env.scope x)(he:PE X e te)(ho:CW X op ti)(hf:X.fn x=true\/X.env.scope.names.lookup x=some .local:=by first|exact .inl rfl|exact .inr rfl|assumption):
  PS X (.AugAssign (.Name x pos') op e pos) (EU i te ti):=by
 intro Y s U H D I h;obtain⟨v,e1,h⟩:=h;obtain⟨m,hn,hl⟩:=I.loc;have zA:Dl X.env.scope x:=by rcases hx with k|k;exact .inl k;exact .inr (.inl k)
 obtain⟨u,r,l⟩:=hl i x v hi e1 zA;refine wpAny_AugAssign_Name ?_;have go:wpAny (model X.prog X.w) X.A (eval e X.env) (λw s₂=>wpAny (model X.prog X.w) X.A (inplaceOp op u w) (λr s₃=>wpAny (model X.prog X.w) X.A (storeName X.env x r) (λ_=>SP X Y D .next) X.xe s₃) X.xe s₂) X.xe s:=by
  refine aB (he Y s U H _ I h) λw s1 ⟨y,H1,I1,r1,q1⟩=>?_
  refine aB (ho Y s1 U H1 v y u w _ I1 r r1 q1) λz s2 ⟨zv,H2,I2,r2,q2⟩=>?_
  exact c7 I2 hN hi hx r2 (λs3 I3=>⟨_,H2,I3,q2⟩) hf
 rcases l with⟨hk,hm⟩|⟨hk,c,hc,hcell⟩
 .exact wpAny_loadName_local I.ok.kind hk hn hm go
 .rcases hk with hk|hk
  .exact wpAny_loadName_cell I.ok.kind hk hc hcell go
  .rcases hx with k|k
   .have:X.env.scope.names.lookup x=some .free:=hk;rw[k]at this;cases this
   .have:X.env.scope.names.lookup x=some .free:=hk;rw[k]at this;cases this
abbrev Dk (to ti te:TE)(tget:V->V->Hp->VK->Prop)(tip:BY)(tset:qD):TS:=λD U H=>to U H λo H1=>ti U H1 λi H2=>tget o i H2 λx H3=>te U H3 λy H4=>tip x y H4 λz H5=>tset o i z H5 λH6=>D.nx U H6
abbrev Bu (X:Cx)(t:V->V->Hp->VK->Prop):Prop:=
 ∀ (Y:GD) (s:Shared) (U:St) (H:Hp) (o i:V) (ov iv:Value) (Q:VK),Inv X Y U H s->RelV o ov->RelV i iv->t o i H Q->
  wpAny (model X.prog X.w) X.A (getItem ov iv) (EP X Y U Q) X.xe s
def xT {o i:Expr}{to ti:TE}{tget:V->V->Hp->VK->Prop}{tip:BY}{tset:qD}{tpos:Pos}(ho:PE X o to)(hi:PE X i ti)(hg:Bu X tget)(he:PE X e te)(hp:CW X op tip)(hs:yh X tset)
  (ha:∀ ov iv new,augStore i ov iv new=(do holding [new,ov,iv] (setItem ov iv new);release [new,ov,iv] [];pure .next):=by intros;rfl):PS X (.AugAssign (.Subscript o i tpos) op e pos) (Dk to ti te tget tip tset):=by
 intro Y s U H D I h;refine wpAny_AugAssign_SubscriptAny (aB (ho Y s U H _ I h) λov s1 ⟨x1,H1,I1,r1,q1⟩=>?_) ha;refine aB (hi Y s1 U H1 _ I1 q1) λiv s2 ⟨x2,H2,I2,r2,q2⟩=>?_
 refine aB (hg Y s2 U H2 x1 x2 ov iv _ I2 r1 r2 q2) λold s3 ⟨x3,H3,I3,r3,q3⟩=>?_
 refine aB (he Y s3 U H3 _ I3 q3) λv s4 ⟨x4,H4,I4,r4,q4⟩=>?_
 refine aB (hp Y s4 U H4 x3 x4 old v _ I4 r3 r4 q4) λnew s5 ⟨x5,H5,I5,r5,q5⟩=>?_
 exact aB (hs Y s5 U H5 x1 x2 x5 ov iv new _ I5 r1 r2 r5 q5) λ_ s6 ⟨H6,I6,q6⟩=>⟨U,H6,I6,q6⟩
abbrev FA (f:Int->Int->Int):BY:=λx y H Q=>∃ i j,x=.int i/\y=.int j/\Q (.int (f i j)) H
def AL:CW X .Add (FA λi j=>i+j):=by
 intro Y s U H x y v u Q I r1 r2 h;obtain⟨i,j,e1,e2,q⟩:=h;subst e1;subst e2;obtain⟨t,rfl⟩:=r1;obtain⟨t',rfl⟩:=r2;exact iadd_int ⟨.int _,H,I.tok _,⟨_,rfl⟩,q⟩
def Au:CW X .Sub (FA λi j=>i-j):=by
 intro Y s U H x y v u Q I r1 r2 h;obtain⟨i,j,e1,e2,q⟩:=h;subst e1;subst e2;obtain⟨t,rfl⟩:=r1;obtain⟨t',rfl⟩:=r2;exact isub_int ⟨.int _,H,I.tok _,⟨_,rfl⟩,q⟩
end
section
variable {X:Cx}{pos:Pos}
end
structure It where
 go:Nat->Hp->Prop
 yld:Nat->Hp->V->Hp->Prop
 stop:Nat->Hp->Prop
abbrev gO (X:Cx)(Y:GD)(H:Hp)(b:Addr):Prop:=
 H b=none/\b≠X.env.locals/\b ∉ X.fs/\(b ∈ X.ex\/X.s₀.heap.objs.size<=b)/\(∀ x c,X.env.cells.lookup x=some c->c≠b)/\∀ p ∈ X.pn++Y,p.1≠b
def Inv.rh {X:Cx}{H':Hp}(I:Inv X Y U H s)(hb:s.heap.objs.size<=b)(hn:H' b=none):gO X Y H' b:=by
 refine⟨hn,Nat.ne_of_gt (nl I.lt hb),I.EN hb,.inr (Nat.le_trans I.sz hb),λx c e z=>?_,λp hp z=>?_⟩
 .obtain⟨v,q⟩:=I.cell x c e;exact absurd (nl q.lt (by rw[z];exact hb)) (Nat.lt_irrefl _)
 .exact absurd (nl (sK (I.pin p hp).1) (by rw[z];exact hb)) (Nat.lt_irrefl _)
structure Turn (P:Program) (w:World) (K:W.Frag) (tg:Expr) (J:It) (fp:List Addr) (it:Addr) (tn:Nat->Heap->Prop):Prop where
 mem:it ∈ fp
 obj:∀ i h,tn i h->∀ b ∈ fp,∃ o,h.get? b=some o/\∀ v,o.data≠.cell v
 keep:∀ i h h',tn i h->(∀ b ∈ fp,∀ o,h.get? b=some o->h'.get? b=some o)->tn i h'
 item:∀ (X:Cx),X.prog=P->X.w=w->X.K=K->X.calm=true->∀ (i:Nat) (Y:GD) (s:Shared) (U:St) (H:Hp) (E:GC),Inv X Y U H s->(∀ b ∈ fp,gO X Y H b)->tn i s.heap->J.go i H->
  wpAny (model P w) X.A (pyNext (.ref it)) (λr s1=>∃ u,r=some u/\
   wpAny (model P w) X.A (letOwnedTupleGo tg (.ref it) u) (λ_ s2=>∃ x H',Inv X Y U H' s2/\RelV x u/\J.yld i H x H'/\tn (i+1) s2.heap/\∀ b ∈ fp,H' b=none) E s1) E s
 done:∀ (X:Cx),X.prog=P->X.w=w->X.K=K->X.calm=true->∀ (i:Nat) (Y:GD) (s:Shared) (U:St) (H:Hp) (E:GC),Inv X Y U H s->(∀ b ∈ fp,gO X Y H b)->tn i s.heap->J.stop i H->
  wpAny (model P w) X.A (pyNext (.ref it)) (λr s1=>r=none/\Inv X Y U H s1) E s
 self:∀ (A:Around) (i:Nat) (s:Shared) (Q:GC) (E:GC),tn i s.heap->Q (.ref it) s->wpAny (model P w) A (pyIter (.ref it)) Q E s
@[reducible]def TI:=St->Hp->(It->Hp->Prop)->Prop
abbrev Ae (X:Cx)(Y:GD)(U:St)(tg:Expr)(R:It->Hp->Prop)(itv:Value)(s2:Shared):Prop:=
 ∃ (it:Addr) (fp:List Addr) (tn:Nat->Heap->Prop) (J:It) (H':Hp),itv=.ref it/\Inv X Y U H' s2/\Turn X.prog X.w X.K tg J fp it tn/\tn 0 s2.heap/\(∀ b ∈ fp,gO X Y H' b)/\R J H'
abbrev PI (X:Cx)(tg iter:Expr)(wi:TI):Prop:=
 ∀ (Y:GD) (s:Shared) (U:St) (H:Hp) (R:It->Hp->Prop),Inv X Y U H s->wi U H R->
  wpAny (model X.prog X.w) X.A (eval iter X.env) (λv s1=>wpAny (model X.prog X.w) X.A (pyIter v) (Ae X Y U tg R) X.xe s1) X.xe s
def lN {it:Addr}{o:Obj}{n:String}{vs:Array Value}{Q:GB}(ho:s.heap.get? it=some o)(hc:o.cls=.type n)(hd:o.data=.fields vs)
  (hn:["enumerate","zip","dict_itemiterator","dict_reverseitemiterator","odict_iterator","itertools.zip_longest","itertools.pairwise"].contains n=false) (hQ:Q () s):wpAny M A (letOwnedTupleGo tg (.ref it) u) Q E s:=by
 unfold letOwnedTupleGo;cases tg<;>first
  |exact am hQ
  |(cases u<;>first
    |exact am hQ
    |(refine ad (wpAny_load ho ?_)
      rw[hc,hd];show wpAny M A (if(["enumerate","zip","dict_itemiterator","dict_reverseitemiterator","odict_iterator","itertools.zip_longest","itertools.pairwise"].contains n&&vs[0]? ==some (rawInt _))=true then _ else _) Q E s;rw[if_neg (by intro h;rw[hn,Bool.false_and]at h;cases h)];exact am hQ))
abbrev xR (K:W.Frag)(a:Addr):It:=
 ⟨λi H=>∃ xs x,aF K H a xs/\xs[i]? =some x,λi H x H'=>H'=H/\∀ xs,aF K H a xs->xs[i]? =some x,λi H=>∃ xs,aF K H a xs/\xs.length<=i⟩
abbrev Dc (K:W.Frag)(a:Addr):It:=
 ⟨λi H=>∃ xs x,bF K H a xs/\xs[i]? =some x,λi H x H'=>H'=H/\∀ xs,bF K H a xs->xs[i]? =some x,λi H=>∃ xs,bF K H a xs/\xs.length<=i⟩
abbrev B4 (lo:Int)(n:Nat):It:=⟨λi _=>i<n,λi H x H'=>H'=H/\x=.int (lo+i),λi _=>n<=i⟩
def rC (a it:Addr):Turn P w K tg (xR K a) [it] it (λi h=>h.IsListIter it a i) where
 mem:=by simp
 obj:=λi h st b hb=>by
  have e:b=it:=by simpa using hb
  subst e;obtain⟨o,e,c,d⟩:=st;exact⟨o,e,λv z=>by rw[d]at z;cases z⟩
 keep:=λi h h' st k=>st.at λo e=>k it (by simp) o e
 item:=by
  intro X hP hw hK hc i Y s U H E I hf st hg;subst hP hw hK;obtain⟨xs,x,hq,hx⟩:=hg;obtain⟨its,rv,p,hz⟩:=I.list hq;obtain⟨u,hu,ru⟩:=rv.get hx;obtain⟨f0,f1,f2,f3,f4,f5⟩:=hf it (by simp);refine wpAny_pyNext_list_item st p.isList (x:=u) (by simpa using hu) λh' st' sb=>?_
  have I1:Inv X Y U H { s with heap:=h' }:=I.turned (t':=s.toks) (λb o hb e=>(sb.2 b hb).trans e) f0 f1 f3 f4 f5;obtain⟨o,e,c,d⟩:=id st';exact⟨u,rfl,lN (s:={ s with heap:=h' }) e c d (by decide) ⟨x,H,I1,ru,⟨rfl,λys hy=>by rw[I.eW hy hq];exact hx⟩,st',λb hb=>(hf b hb).1⟩⟩
 done:=by
  intro X hP hw hK hc i Y s U H E I hf st hg;subst hP hw hK;obtain⟨xs,hq,hx⟩:=hg;obtain⟨its,rv,p,hz⟩:=I.list hq;obtain⟨f0,f1,f2,f3,f4,f5⟩:=hf it (by simp);have hl:=rv.length;exact wpAny_pyNext_list_end (I.ok.hd hc) st p.isList (by simp;omega) λh' eb=>⟨rfl,I.turned (t':=s.toks) (λb o hb e=>eb b o hb e) f0 f1 f3 f4 f5⟩
 self:=λ_ _ _ _ _ st h=>wpAny_pyIter_listiter st h
def n8 (a it:Addr):Turn P w K tg (Dc K a) [it] it (λi h=>h.IsTupleIter it a i) where
 mem:=by simp
 obj:=λi h st b hb=>by
  have e:b=it:=by simpa using hb
  subst e;obtain⟨o,e,c,d⟩:=st;exact⟨o,e,λv z=>by rw[d]at z;cases z⟩
 keep:=λi h h' st k=>st.at λo e=>k it (by simp) o e
 item:=by
  intro X hP hw hK hc i Y s U H E I hf st hg;subst hP hw hK;obtain⟨xs,x,hq,hx⟩:=hg;obtain⟨its,rv,p,hz⟩:=I.tuple hq;obtain⟨u,hu,ru⟩:=rv.get hx;obtain⟨f0,f1,f2,f3,f4,f5⟩:=hf it (by simp);refine wpAny_pyNext_tuple_item st (show s.heap.IsTuple a its.toArray from p) (x:=u) (by simpa using hu) λh' st' sb=>?_
  have I1:Inv X Y U H { s with heap:=h' }:=I.turned (t':=s.toks) (λb o hb e=>(sb.2 b hb).trans e) f0 f1 f3 f4 f5;obtain⟨o,e,c,d⟩:=id st';exact⟨u,rfl,lN (s:={ s with heap:=h' }) e c d (by decide) ⟨x,H,I1,ru,⟨rfl,λys hy=>by rw[I.jQ hy hq];exact hx⟩,st',λb hb=>(hf b hb).1⟩⟩
 done:=by
  intro X hP hw hK hc i Y s U H E I hf st hg;subst hP hw hK;obtain⟨xs,hq,hx⟩:=hg;obtain⟨its,rv,p,hz⟩:=I.tuple hq;obtain⟨f0,f1,f2,f3,f4,f5⟩:=hf it (by simp);have hl:=rv.length;exact wpAny_pyNext_tuple_end (I.ok.hd hc) st (show s.heap.IsTuple a its.toArray from p) (by simp;omega) λh' eb=>⟨rfl,I.turned (t':=s.toks) (λb o hb e=>eb b o hb e) f0 f1 f3 f4 f5⟩
 self:=λ_ _ _ _ _ st h=>wpAny_pyIter_tupleiter st h
def o9 (it:Addr)(lo:Int)(n:Nat):Turn P w K tg (B4 lo n) [it] it (λi h=>IsRangeIter h it (lo+(i:Nat)*1) ((n:Int)-(i:Nat)) 1) where
 mem:=by simp
 obj:=λi h st b hb=>by
  have e:b=it:=by simpa using hb
  subst e;exact⟨_,st,λv z=>by
   have z':Data.fields _=Data.cell v:=z;cases z'⟩
 keep:=λi h h' st k=>k it (by simp) _ st
 item:=by
  intro X hP hw hK hc i Y s U H E I hf st hg;subst hP hw hK;obtain⟨f0,f1,f2,f3,f4,f5⟩:=hf it (by simp);have W:=Walks.range (prog:=X.prog) (w:=X.w) (I.ok.hd hc) it lo 1 n;refine W.item i s _ _ hg st λv h' tk hv st' kk=>?_
  obtain⟨t,rfl⟩:=hv;have I1:Inv X Y U H { s with heap:=h',toks:=tk }:=I.turned (λb o hb e=>kk b o (by simpa using hb) e) f0 f1 f3 f4 f5;refine⟨_,rfl,lN (s:={ s with heap:=h',toks:=tk }) (n:="range_iterator") st' rfl rfl (by decide) ⟨.int (lo+i),H,I1,⟨t,?_⟩,⟨rfl,rfl⟩,st',λb hb=>(hf b hb).1⟩⟩;rw[Int.mul_one]
 done:=by
  intro X hP hw hK hc i Y s U H E I hf st hg;subst hP hw hK;obtain⟨f0,f1,f2,f3,f4,f5⟩:=hf it (by simp);exact wpAny_pyNext_range_end (I.ok.hd hc) st (by have:n<=i:=hg;omega) λh' eb=>⟨rfl,I.turned (t':=s.toks) (λb o hb e=>eb b o hb e) f0 f1 f3 f4 f5⟩
 self:=λ_ _ _ _ _ st h=>wpAny_pyIter_rangeiter st h
variable {pos:Pos}{fp:List Addr}{body:List Stmt}
section
variable {X:Cx}{tg:Expr}
def vx {R:It->Hp->Prop}{lo hi:Int}{t u v:Tok}{tk:Nat}(I:Inv X Y U H s)(h1: -(2 ^ 62)<=lo)(h2:lo<2 ^ 62)(h3: -(2 ^ 62)<=hi)(h4:hi<2 ^ 62)
  (q:R (B4 lo (hi-lo).toNat) H):wpAny (model X.prog X.w) X.A (pyIter (.ref s.heap.objs.size)) (Ae X Y U tg R) E { s with heap:=s.heap.push { cls:=.type "range",data:=.fields #[.int lo t,.int hi u,.int 1 v] },toks:=tk }:=by
 refine wpAny_pyIter_range (IsRange.new ..) (small_one h1 h2 h3 h4) ?_;have I1:Inv X Y U H { s with heap:=s.heap.push { cls:=.type "range",data:=.fields #[.int lo t,.int hi u,.int 1 v] },toks:=tk }:=I.kept λb o e=>sw _ e
 refine⟨(s.heap.push { cls:=.type "range",data:=.fields #[.int lo t,.int hi u,.int 1 v] }).objs.size,[(s.heap.push { cls:=.type "range",data:=.fields #[.int lo t,.int hi u,.int 1 v] }).objs.size],_,_,H,rfl,
  I1.kept (t':=tk) λb o e=>sw _ e,o9 _ lo (hi-lo).toNat,?_,λb hb=>?_,q⟩
 .have e1:lo+((0:Nat):Int)*1=lo:=by simp
  have e2:(((hi-lo).toNat:Nat):Int)-((0:Nat):Int)=Builtin.Range.rangeSize lo hi 1:=by rw[rangeSize_one];split<;>omega
  show IsRangeIter _ _ (lo+((0:Nat):Int)*1) ((((hi-lo).toNat:Nat):Int)-((0:Nat):Int)) 1;rw[e1,e2];exact tz _ rfl
 .have e:b=(s.heap.push { cls:=.type "range",data:=.fields #[.int lo t,.int hi u,.int 1 v] }).objs.size:=by simpa using hb
  subst e;exact I1.rh (pi _) (I1.hok.fresh (pi _))
abbrev Cc (ta:TA):TI:=λU H R=>ta U H λvs H1=>∃ j:Int,vs=[.int j]/\ -(2 ^ 62)<=j/\j<2 ^ 62/\R (B4 0 j.toNat) H1
def rM {a:Expr}{ta:TA}{p:Pos}(hg:Gl X "range") (hm:X.mg "range"=none) (ha:PA X [a] ta) (hs:bm [a] X.env=[(false,eval a X.env)]:=by rfl):PI X tg (.Call (.Name "range" p) [a] [] pos) (Cc ta):=by
 intro Y s U H R I h;refine Call_ (hJ I hg hm boot_range (PyProof.Rows.callWith_type1 (aB (ha pos Y s U H _ I h) λus s1 ⟨vs,H1,I1,r1,q1⟩=>?_) hs rfl));obtain⟨j,e,q1,q2,q⟩:=q1;subst e;cases r1 with
 |cons r rr=>
  cases rr;obtain⟨t,rfl⟩:=r;exact call_range_1 (vx I1 nofun nofun q1 q2 (by simpa using q))
abbrev EJ (wi:TI)(g:TG)(tb:TS):TS:=λD U H=>wi U H λJ H1=>∃ W:Nat->Nat->St->Hp->Prop,(∃ m,W 0 m U H1)/\∀ i m U H,W i m U H->
 (J.stop i H/\D.nx U H)\/(J.go i H/\∃ N:St->Hp->Prop,(∀ σ' H',N σ' H'->∃ m',m'<m/\W (i+1) m' σ' H')/\∀ x H',J.yld i H x H'->g x U H' λσ2 H2=>tb { D with nx:=N,ct:=N,bk:=D.nx } σ2 H2)
abbrev j8 (fp:List Addr)(h:Heap):List (Addr×Obj):=fp.filterMap λb=>(h.get? b).map λo=>(b,o)
def bg {o:Obj}(hb:b ∈ fp)(e:h.get? b=some o):(b,o) ∈ j8 fp h:=List.mem_filterMap.mpr ⟨b,hb,by rw[e];rfl⟩
def qP {p:Addr×Obj}(hp:p ∈ j8 fp h):p.1 ∈ fp/\h.get? p.1=some p.2:=by
 obtain⟨b,hb,e⟩:=List.mem_filterMap.mp hp;cases q:h.get? b with
 |none=>rw[q]at e;cases e
 |some o=>
  rw[q]at e;have e':(b,o)=p:=Option.some.inj e;subst e';exact⟨hb,q⟩
def Inv.pinned (I:Inv X Y U H s)(hf:∀ b ∈ fp,gO X Y H b) (ho:∀ b ∈ fp,∃ o,s.heap.get? b=some o/\∀ v,o.data≠.cell v):Inv X (Y++j8 fp s.heap) U H s:=
 I.j7 λp hp=>(mem_append.mp hp).elim (λz=>I.pin p (ii _ z)) λz=>by
  obtain⟨hb,e⟩:=qP z;obtain⟨f0,f1,f2,_⟩:=hf p.1 hb;obtain⟨o,e',d⟩:=ho p.1 hb;rw[e]at e';cases e';exact⟨e,f0,f1,f2,d⟩
def Inv.dg {pl:GD}(I:Inv X (Y++pl) U H s):Inv X Y U H s:=I.j7 λp hp=>I.pin p (ii _ (mem_append_left _ hp))
def AN {iter:Expr}{wi:TI}{g:TG}{tb:TS}(hp:PassesOwn (model X.prog X.w) X.A X.env X.xe)(hc:X.calm=true)(hi:PI X tg iter wi)(hg:PG X tg g)(hb:yD X body tb)
  (hs:∀ x,foldedSetIterable iter X.env x=pure x:=by intro _;rfl):PS X (.For tg iter body [] pos) (EJ wi g tb):=by
 intro Y s U H D I h;refine wpAny_For (aB (hi Y s U H _ I h) λv s1 h1=>aB h1 λitv s2 h2=>?_) hs;obtain⟨it,fp,tn,J,H2,e,I2,T,om,f2,W,⟨m0,w0⟩,turn⟩:=h2;subst e;have stat:∀ {H':Hp},(∀ b ∈ fp,H' b=none)->∀ b ∈ fp,gO X Y H' b:=λhn b hb=>⟨hn b hb,(f2 b hb).2⟩
 refine codeAny_forLoop_any (λn s'=>∃ i σ' H',Inv X Y σ' H' s'/\tn i s'.heap/\(∀ b ∈ fp,H' b=none)/\W i n σ' H') ?_ m0 ⟨0,U,H2,I2,om,λb hb=>(f2 b hb).1,w0⟩;rintro n s3 ⟨i,σ3,H3,I3,st3,fr3,w3⟩;rcases turn i n σ3 H3 w3 with⟨stop,qn⟩|⟨go,N,hN,step⟩
 .refine wpAny_passesOwn hp (aB (T.done X rfl rfl rfl hc i Y s3 σ3 H3 X.xe I3 (stat fr3) st3 stop) λr s4 ⟨hr,I4⟩=>?_);subst hr;exact wpAny_execs_nil ⟨σ3,H3,I4,qn⟩
 .refine wpAny_passesOwn hp (aB (T.item X rfl rfl rfl hc i Y s3 σ3 H3 X.xe I3 (stat fr3) st3 go) λr s4 ⟨u,hr,h4⟩=>?_);subst hr;refine wpAny_passesOwn hp (aB h4 λ_ s5 ⟨x,H5,I5,r5,y5,st5,fr5⟩=>?_);have I5':=I5.pinned (stat fr5) (T.obj _ _ st5);refine wpAny_passesOwn hp (aB (hg _ s5 σ3 H5 x u _ I5' r5 (step x H5 y5)) λ_ s6 ⟨σ6,H6,I6,q6⟩=>?_);refine wpAny_passesOwn hp (aB (hb _ s6 σ6 H6 _ I6 q6) λf s7 q7=>?_);have again:∀ {σ7:St}{H7:Hp},Inv X (Y++j8 fp s5.heap) σ7 H7 s7->N σ7 H7->∃ m,m<n/\∃ i σ' H',Inv X Y σ' H' s7/\tn i s7.heap/\(∀ b ∈ fp,H' b=none)/\W i m σ' H':=λ{σ7 H7} I7 n7=>by
   obtain⟨m',hm,w7⟩:=hN σ7 H7 n7;refine⟨m',hm,i+1,σ7,H7,I7.dg,T.keep _ _ _ st5 λb hb o e=>(I7.pin (b,o) (ii _ (ii _ (bg hb e)))).1,λb hb=>?_,w7⟩;obtain⟨o,e,d⟩:=T.obj _ _ st5 b hb;exact(I7.pin (b,o) (ii _ (ii _ (bg hb e)))).2.1
  cases f with
  |next=>obtain⟨σ7,H7,I7,n7⟩:=q7;exact again I7 n7
  |cont=>obtain⟨σ7,H7,I7,n7⟩:=q7;exact again I7 n7
  |brk=>obtain⟨σ7,H7,I7,q7⟩:=q7;exact⟨σ7,H7,I7.dg,q7⟩
  |ret v=>obtain⟨x7,σ7,H7,I7,r7,q7⟩:=q7;exact⟨x7,σ7,H7,I7.dg,r7,q7⟩
end
@[reducible]def R2:=V->V->Hp->VK->Prop
abbrev bT (X:Cx)(f:Value->Value->Sem Value)(r:R2):Prop:=
 ∀ (Y:GD) (s:Shared) (U:St) (H:Hp) (x y:V) (v u:Value) (Q:VK),Inv X Y U H s->RelV x v->RelV y u->r x y H Q->
  wpAny (model X.prog X.w) X.A (f v u) (EP X Y U Q) X.xe s
abbrev DP (X:Cx)(f:Value->Sem Value)(r:V->Hp->VK->Prop):Prop:=
 ∀ (Y:GD) (s:Shared) (U:St) (H:Hp) (x:V) (v:Value) (Q:VK),Inv X Y U H s->RelV x v->r x H Q->
  wpAny (model X.prog X.w) X.A (f v) (EP X Y U Q) X.xe s
abbrev bZ (X:Cx)(f:Value)(r:List V->Hp->VK->Prop):Prop:=
 ∀ (Y:GD) (s:Shared) (U:St) (H:Hp) (xs:List V) (us:List Value) (Q:VK),Inv X Y U H s->Vals xs us->r xs H Q->
  wpAny (model X.prog X.w) X.A (call f us) (EP X Y U Q) X.xe s
abbrev EA (X:Cx)(r:V->Hp->(Bool->Hp->Prop)->Prop):Prop:=
 ∀ (Y:GD) (s:Shared) (U:St) (H:Hp) (x:V) (v:Value) (Q:Bool->Hp->Prop),Inv X Y U H s->RelV x v->r x H Q->
  wpAny (model X.prog X.w) X.A (truthy v) (TP X Y U Q) X.xe s
abbrev D0 (r:R2)(ta tb:TE):TE:=λU H Q=>ta U H λx H1=>tb U H1 λy H2=>r x y H2 Q
abbrev FJ (r:V->Hp->VK->Prop)(ta:TE):TE:=λU H Q=>ta U H λx H1=>r x H1 Q
abbrev rI (C:Int->Int->Prop)(g:Int->Int->V):R2:=λx y H Q=>∃ i j,x=.int i/\y=.int j/\C i j/\Q (g i j) H
abbrev yr (g:Int->Int->V):R2:=λx y H Q=>∃ i j,x=.int i/\y=.int j/\Q (g i j) H
abbrev rU (g:Int->V):V->Hp->VK->Prop:=λx H Q=>∃ i,x=.int i/\Q (g i) H
variable {f:Value->Value->Sem Value}{r:R2}{g:Int->Int->Int}
section
variable {X:Cx}{a b c:Expr}{ta tb tc:TE}{pos:Pos}
def AG (ha:PE X a ta)(hb:PE X b tb){R:V->V->Hp->Prop}(I:Inv X Y U H s)
  (h:ta U H λx H1=>tb U H1 λy H2=>R x y H2)
  (hf:∀ v u s2 x y H2,Inv X Y U H2 s2->RelV x v->RelV y u->R x y H2->wpAny (model X.prog X.w) X.A (f v u) Q X.xe s2):
  wpAny (model X.prog X.w) X.A (eval a X.env) (λv s₁=>wpAny (model X.prog X.w) X.A (eval b X.env) (λu s₂=>wpAny (model X.prog X.w) X.A (f v u) Q X.xe s₂) X.xe s₁) X.xe s:=by
 refine aB (ha Y s U H _ I h) λv s1 ⟨x,H1,I1,r1,q1⟩=>?_
 refine aB (hb Y s1 U H1 _ I1 q1) λu s2 ⟨y,H2,I2,r2,q2⟩=>?_
 exact hf v u s2 x y H2 I2 r1 r2 q2
def Ci (ho:bT X (binaryOp op) r)(ha:PE X a ta)(hb:PE X b tb):PE X (.BinOp a op b pos) (D0 r ta tb):=by
 intro Y s U H Q I h;exact wpAny_BinOp (AG ha hb I h λv u s2 x y H2 I2 rx ry q=>ho Y s2 U H2 x y v u Q I2 rx ry q)
def Cv {op:UnaryOp}{r:V->Hp->VK->Prop}(ho:DP X (unaryOp op) r)(ha:PE X a ta):PE X (.UnaryOp op a pos) (FJ r ta):=by
 intro Y s U H Q I h;exact UnaryOp_ (aB (ha Y s U H _ I h) λv s1 ⟨x,H1,I1,r1,q1⟩=>ho Y s1 U H1 x v Q I1 r1 q1)
def D5 {C:Int->Int->Prop}
  (rule:∀ (i j:Int) (t u:Tok) (s:Shared) (Q:GC) (E:GC),C i j->Q (.int (g i j) s.toks) { s with toks:=s.toks+1 }->wpAny (model X.prog X.w) X.A (f (.int i t) (.int j u)) Q E s):
  bT X f (rI C λi j=>.int (g i j)):=by
 intro Y s U H x y v u Q I rx ry h;obtain⟨i,j,rfl,rfl,hc,q⟩:=h;obtain⟨t,rfl⟩:=rx;obtain⟨t',rfl⟩:=ry;exact rule i j t t' s _ _ hc ⟨.int (g i j),H,I.tok _,⟨_,rfl⟩,q⟩
def CA 
  (rule:∀ (i j:Int) (t u:Tok) (s:Shared) (Q:GC) (E:GC),Q (.int (g i j) s.toks) { s with toks:=s.toks+1 }->wpAny (model X.prog X.w) X.A (f (.int i t) (.int j u)) Q E s):
  bT X f (yr λi j=>.int (g i j)):=by
 intro Y s U H x y v u Q I rx ry h;obtain⟨i,j,rfl,rfl,q⟩:=h;obtain⟨t,rfl⟩:=rx;obtain⟨t',rfl⟩:=ry;exact rule i j t t' s _ _ ⟨.int (g i j),H,I.tok _,⟨_,rfl⟩,q⟩
def wk {g:Int->Int->Bool}
  (rule:∀ (i j:Int) (t u:Tok) (s:Shared) (Q:GC) (E:GC),Q (.bool (g i j)) s->wpAny (model X.prog X.w) X.A (f (.int i t) (.int j u)) Q E s):
  bT X f (yr λi j=>.bl (g i j)):=by
 intro Y s U H x y v u Q I rx ry h;obtain⟨i,j,rfl,rfl,q⟩:=h;obtain⟨t,rfl⟩:=rx;obtain⟨t',rfl⟩:=ry;exact rule i j t t' s _ _ ⟨.bl (g i j),H,I,rfl,q⟩
abbrev E8 (i j:Int):Prop:=0<j/\j<1073741824
abbrev xu (i j:Int):Prop:=0<=j/\j<=1000000/\i.natAbs<2 ^ 64
abbrev qH (i j:Int):Prop:=(-(2 ^ 64)<i/\i<2 ^ 64)\/(-(2 ^ 64)<j/\j<2 ^ 64)
def qH.ok {i j:Int}(h:qH i j):IntMulOk i j:=by
 rcases h with⟨h1,h2⟩|⟨h1,h2⟩
 .exact .of_left (intBits_le_64 h1 h2)
 .exact .of_right (intBits_le_64 h1 h2)
def Bk:bT X (binaryOp .Add) (yr λi j=>.int (i+j)):=CA λ_ _ _ _ _ _ _ q=>add_int q
def A9:bT X (binaryOp .Sub) (yr λi j=>.int (i-j)):=CA λ_ _ _ _ _ _ _ q=>sub_int q
def A5:bT X (binaryOp .Mult) (rI qH λi j=>.int (i*j)):=D5 λ_ _ _ _ _ _ _ hc q=>mul_int q hc.ok
def xy:bT X (binaryOp .FloorDiv) (rI E8 λi j=>.int (i / j)):=D5 λi j _ _ _ _ _ hc q=>by
 have h1:(0:Int)<j:=hc.1;have h2:j<1073741824:=hc.2;exact floordiv_int nofun (by rw[Int.fdiv_eq_ediv_of_nonneg i nofun];exact q) (.inl (PyProof.noPylong_small nofun))
def AR:bT X (binaryOp .Mod) (rI (λ_ j=>0<j) λi j=>.int (i % j)):=D5 λi j _ _ _ _ _ hc q=>by
 have h1:(0:Int)<j:=hc;exact mod_int' nofun (by rw[Int.fmod_eq_emod_of_nonneg i nofun];exact q)
def AB:bT X (binaryOp .Pow) (rI xu λi j=>.int (i ^ j.toNat)):=D5 λ_ _ _ _ _ _ _ hc q=>pow_int_small hc.1 hc.2.1 hc.2.2 q
def FQ {f:Value->Sem Value}{g:Int->Int}
  (rule:∀ (i:Int) (t:Tok) (s:Shared) (Q:GC) (E:GC),Q (.int (g i) s.toks) { s with toks:=s.toks+1 }->wpAny (model X.prog X.w) X.A (f (.int i t)) Q E s):
  DP X f (rU λi=>.int (g i)):=by
 intro Y s U H x v Q I rx h;obtain⟨i,rfl,q⟩:=h;obtain⟨t,rfl⟩:=rx;exact rule i t s _ _ ⟨.int (g i),H,I.tok _,⟨_,rfl⟩,q⟩
def BE:DP X (unaryOp .USub) (rU λi=>.int (-i)):=FQ λ_ _ _ _ _ q=>neg_int q
end
section
variable {X:Cx}{a b c:Expr}{ta tb tc:TE}{pos:Pos}
def kG {Q:VK}{k k':Bool}(I:Inv X Y U H s)(q:Q (.bl k) H)(e:k=k'):EP X Y U Q (.bool k') s:=by
 subst e;exact⟨.bl k,H,I,rfl,q⟩
def CS:bT X (compareOp .Lt) (yr λi j=>.bl (decide (i<j))):=wk λ_ _ _ _ _ _ _ q=>lt_int q
def Dy:bT X (compareOp .LtE) (yr λi j=>.bl (decide (i<=j))):=wk λ_ _ _ _ _ _ _ q=>le_int q
def Dm:bT X (compareOp .Gt) (yr λi j=>.bl (decide (j<i))):=wk λ_ _ _ _ _ _ _ q=>gt_int q
def CY:bT X (compareOp .GtE) (yr λi j=>.bl (decide (j<=i))):=wk λ_ _ _ _ _ _ _ q=>ge_int q
def qy:bT X (compareOp .In) (λx y H Q=>∃ i j,x=.str i/\y=.str j/\Q (.bl (!(Builtin.Str.occurrences j i 0 j.length 1).isEmpty)) H):=by
 intro Y s U H x y v u Q I rx ry h;obtain⟨i,j,rfl,rfl,q⟩:=h;obtain⟨t,rfl⟩:=rx;obtain⟨t',rfl⟩:=ry;exact in_str (kG I q rfl)
def AU:bT X (compareOp .Is) (λx y H Q=>y=.non/\Q (.bl (decide (x=.non))) H):=by
 intro Y s U H x y v u Q I rx ry h;obtain⟨rfl,q⟩:=h;cases ry;refine is_none_gen (kG I q ?_);cases x<;>first
  |(cases rx;rfl)
  |(obtain⟨t,rfl⟩:=rx;rfl)
def vZ:bT X (compareOp .IsNot) (λx y H Q=>y=.non/\Q (.bl (!decide (x=.non))) H):=by
 intro Y s U H x y v u Q I rx ry h;obtain⟨rfl,q⟩:=h;cases ry;refine isnot_none_gen (kG I q ?_);cases x<;>first
  |(cases rx;rfl)
  |(obtain⟨t,rfl⟩:=rx;rfl)
def kJ:bT X (compareOp .NotIn) (λx y H Q=>∃ i j,x=.str i/\y=.str j/\Q (.bl (!(!(Builtin.Str.occurrences j i 0 j.length 1).isEmpty))) H):=by
 intro Y s U H x y v u Q I rx ry h;obtain⟨i,j,rfl,rfl,q⟩:=h;obtain⟨t,rfl⟩:=rx;obtain⟨t',rfl⟩:=ry;exact notIn_str (kG I q rfl)
def xG {op:CmpOp}(ho:bT X (compareOp op) r)(ha:PE X a ta)(hb:PE X b tb)(hm:behindInMarks op b=false):PE X (.Compare a [op] [b] pos) (D0 r ta tb):=by
 intro Y s U H Q I h;exact wpAny_Compare1 (AG ha hb I h λv u s2 x y H2 I2 rx ry q=>ho Y s2 U H2 x y v u Q I2 rx ry q) hm
abbrev zf (t:TE):TT:=λU H Q=>t U H λx H'=>∃ k,x=.bl k/\Q k H'
def yt {op:CmpOp}(ho:bT X (compareOp op) r)(ha:PE X a ta)(hb:PE X b tb)(hm:behindInMarks op b=false):PT X (.Compare a [op] [b] pos) (zf (D0 r ta tb)):=by
 intro Y s U H Q I h;refine wpAny_isTrue_Compare1 (aB (ha Y s U H _ I h) λv s1 ⟨x,H1,I1,r1,q1⟩=>aB (hb Y s1 U H1 _ I1 q1) λu s2 ⟨y,H2,I2,r2,q2⟩=>
  aB (ho Y s2 U H2 x y v u _ I2 r1 r2 q2) λc s3 ⟨z,H3,I3,r3,k,e,q3⟩=>?_) hm
 subst e;cases r3;exact bi ⟨H3,I3,q3⟩
abbrev rY (r r':R2)(ta tb tc:TE):TE:=λU H Q=>ta U H λx H1=>tb U H1 λy H2=>r x y H2 λz H3=>∃ k,z=.bl k/\
 (if k=true then tc U H3 λw' H4=>r' y w' H4 Q else Q (.bl false) H3)
def tZ {op op':CmpOp}{r':R2}(ho:bT X (compareOp op) r)(ho':bT X (compareOp op') r')(ha:PE X a ta)(hb:PE X b tb)(hc:PE X c tc)
  (hm:lastMarks [op,op'] [b,c]=false:=by with_unfolding_all rfl):PE X (.Compare a [op,op'] [b,c] pos) (rY r r' ta tb tc):=by
 intro Y s U H Q I h;refine Compare_chain (aB (ha Y s U H _ I h) λv s1 ⟨x,H1,I1,r1,q1⟩=>chain_link (aB (hb Y s1 U H1 _ I1 q1) λu s2 ⟨y,H2,I2,r2,q2⟩=>
  aB (ho Y s2 U H2 x y v u _ I2 r1 r2 q2) λd s3 ⟨z,H3,I3,r3,k,e,q3⟩=>?_)) hm
 subst e;cases r3;refine bi ?_;cases k with
 |false=>exact ite_ff ⟨.bl false,H3,I3,rfl,q3⟩
 |true=>exact ite_tt (chain_last (aB (hc Y s3 U H3 _ I3 q3) λw' s4 ⟨z',H4,I4,r4,q4⟩=>ho' Y s4 U H4 y z' u w' Q I4 r2 r4 q4))
def um {op op':CmpOp}{r':R2}(ho:bT X (compareOp op) r)(ho':bT X (compareOp op') r')(ha:PE X a ta)(hb:PE X b tb)(hc:PE X c tc)
  (hm:lastMarks [op,op'] [b,c]=false:=by with_unfolding_all rfl):PT X (.Compare a [op,op'] [b,c] pos) (zf (rY r r' ta tb tc)):=by
 intro Y s U H Q I h;refine isTrue_chain (aB (ha Y s U H _ I h) λv s1 ⟨x,H1,I1,r1,q1⟩=>test_link (aB (hb Y s1 U H1 _ I1 q1) λu s2 ⟨y,H2,I2,r2,q2⟩=>
  aB (ho Y s2 U H2 x y v u _ I2 r1 r2 q2) λd s3 ⟨z,H3,I3,r3,k,e,q3⟩=>?_)) hm
 subst e;cases r3;refine bi ?_;cases k with
 |false=>
  obtain⟨k',e',q'⟩:=q3;cases e';exact ite_ff ⟨H3,I3,q'⟩
 |true=>
  refine ite_tt (test_last (aB (hc Y s3 U H3 _ I3 q3) λw' s4 ⟨z',H4,I4,r4,q4⟩=>aB (ho' Y s4 U H4 y z' u w' _ I4 r2 r4 q4) λd' s5 ⟨z2,H5,I5,r5,k2,e2,q5⟩=>?_));subst e2;cases r5;exact bi ⟨H5,I5,q5⟩
abbrev xN (K:W.Frag)(x:V)(H:Hp)(k:Bool):Prop:=
 match x with
 | .non=>k=false
 | .bl b=>k=b
 | .int i=>k=(i != 0)
 | .str y=>y.length<=bn/\k=((y.length:Int) != 0)
 | .byt y=>y.size<=bn/\k=((y.size:Int) != 0)
 | .ref p=>(∃ xs,aF K H p xs/\k= !xs.isEmpty)\/(∃ xs,bF K H p xs/\k= !xs.isEmpty)\/∃ kvs,H p=some (.dK kvs)/\k= !kvs.isEmpty
 |_=>False
def nz {κ:Type}{kvs:List (κ×V)}{vs:List (κ×Value)}(r:KV kvs vs):(!vs.isEmpty)= !kvs.isEmpty:=by
 cases r<;>rfl
def iy {its:List Value}(r:Vals xs its):(!its.toArray.isEmpty)= !xs.isEmpty:=by
 cases r<;>simp
def dZ:(bn:Nat)<2 ^ 63:=by rw[sizeLine_eq];decide
def Aq:EA X (λx H Q=>∃ k,xN X.K x H k/\Q k H):=by
 intro Y s U H x v Q I rx h;obtain⟨k,e,q⟩:=h;have hl:=dZ;have hs:bn=16777216:=sizeLine_eq;cases x with
 |non=>
  cases rx;have e':k=false:=e;subst e';exact truthy_none ⟨H,I,q⟩
 |bl b=>
  cases rx;have e':k=b:=e;subst e';exact bi ⟨H,I,q⟩
 |int i=>
  obtain⟨t,rfl⟩:=rx;have e':k=(i != 0):=e;subst e';exact PySem.P.truthy_int ⟨H,I,q⟩
 |str y=>
  obtain⟨t,rfl⟩:=rx;obtain⟨hy,e'⟩:y.length<=bn/\k=((y.length:Int) != 0):=e;subst e';exact PySem.P.truthy_str nofun ⟨H,I.tok _,q⟩
 |byt y=>
  obtain⟨t,rfl⟩:=rx;obtain⟨hy,e'⟩:y.size<=bn/\k=((y.size:Int) != 0):=e;subst e';exact W.truthy_bytes nofun ⟨H,I.tok _,q⟩
 |ref p=>
  cases rx;have e':(∃ xs,aF X.K H p xs/\k= !xs.isEmpty)\/(∃ xs,bF X.K H p xs/\k= !xs.isEmpty)\/∃ kvs,H p=some (.dK kvs)/\k= !kvs.isEmpty:=e;rcases e' with⟨xs,hx,e'⟩|⟨xs,hx,e'⟩|⟨kvs,hx,e'⟩
  .subst e';obtain⟨its,r,pl,hz⟩:=I.list hx;have hlen:=r.length;exact wpAny_truthy_list pl.isList (by simp only[ge];omega) ⟨H,I.tok _,by rw[iy r];exact q⟩
  .subst e';obtain⟨its,r,pl,hz⟩:=I.tuple hx;have hlen:=r.length;exact truthy_tuple pl (by simp only[ge];omega) ⟨H,I.tok _,by rw[iy r];exact q⟩
  .subst e';obtain⟨hz,hS,vs,r,m⟩:kvs.length<=bn/\(p ==sysModules)=false/\∃ vs,KV kvs vs/\s.heap.DictOf (aI X.prog X.w) p vs:=I.hok p _ hx;have hlen:kvs.length=vs.length:=Paired.length r;exact wpAny_truthy_dict hS m nofun ⟨H,I.tok _,by rw[nz r];exact q⟩
 |_=>exact(show False from e).elim
def sJ (ha:PE X a ta)(he:∀ whole,isTrue a X.env whole=(do let v <-whole;standAt a.pos;holding [v] (truthy v))):
  PT X a (λU H Q=>ta U H λx H'=>∃ k,xN X.K x H' k/\Q k H'):=by
 intro Y s U H Q I h;exact isTrue_plain (aB (ha Y s U H _ I h) λv s1 ⟨x,H1,I1,r1,q1⟩=>Aq Y s1 U H1 x v Q I1 r1 q1) (he _)
def oz:bT X (binaryOp .Add) (λx y H Q=>∃ i j,x=.str i/\y=.str j/\i.length+j.length<=bn/\Q (.str (i++j)) H):=by
 intro Y s U H x y v u Q I rx ry h;obtain⟨i,j,rfl,rfl,hz,q⟩:=h;obtain⟨t,rfl⟩:=rx;obtain⟨t',rfl⟩:=ry;exact add_str (λt' tk=>⟨.str (i++j),H,I.tok _,⟨_,rfl⟩,q⟩) hz
def vals1 {x:V}(r:Vals [x] us):∃ u,us=[u]/\RelV x u:=by
 cases r with
 |cons r1 r2=>cases r2;exact⟨_,rfl,r1⟩
def vals2 {x y:V}(r:Vals [x,y] us):∃ u w',us=[u,w']/\RelV x u/\RelV y w':=by
 cases r with
 |cons r1 r2=>
  cases r2 with
  |cons r3 r4=>cases r4;exact⟨_,_,rfl,r1,r3⟩
def qA (hc:X.calm=true):bZ X (.builtin "min") (λxs H Q=>∃ i j,xs=[.int i,.int j]/\Q (.int (if j<i then j else i)) H):=by
 intro Y s U H xs us Q I r h;obtain⟨i,j,rfl,q⟩:=h;obtain⟨u,w',rfl,⟨t,rfl⟩,⟨t',rfl⟩⟩:=vals2 r;refine min_two_ints (I.ok.hd hc) λh' tk k=>⟨_,H,I.kept k,?_,q⟩
 by_cases hj:j<i
 .rw[if_pos hj,if_pos hj];exact⟨_,rfl⟩
 .rw[if_neg hj,if_neg hj];exact⟨_,rfl⟩
def rD:bZ X (.type "int") (λxs H Q=>(∃ i,xs=[.int i]/\Q (.int i) H)\/∃ k,xs=[.bl k]/\Q (.int (if k then 1 else 0)) H):=by
 intro Y s U H xs us Q I r h;rcases h with⟨i,rfl,q⟩|⟨k,rfl,q⟩
 .obtain⟨u,rfl,t,rfl⟩:=vals1 r;exact call_int_int ⟨.int i,H,I,⟨_,rfl⟩,q⟩
 .obtain⟨u,rfl,r1⟩:=vals1 r;cases r1;exact call_int_bool ⟨.int (if k then 1 else 0),H,I.tok _,⟨_,rfl⟩,q⟩
def kB:bZ X (.type "str") (λxs H Q=>∃ i,xs=[.int i]/\i.natAbs.log2<1920/\Q (.str (toString i)) H):=by
 intro Y s U H xs us Q I r h;obtain⟨i,rfl,hz,q⟩:=h;obtain⟨u,rfl,t,rfl⟩:=vals1 r;exact PySem.P.str_of_int hz ⟨.str _,H,I.tok _,⟨_,rfl⟩,q⟩
abbrev Cn (K:W.Frag)(x:V)(H:Hp)(n:Nat):Prop:=
 match x with
 | .str y=>y.length<=bn/\n=y.length
 | .byt y=>y.size<=bn/\n=y.size
 | .ref p=>(∃ xs,aF K H p xs/\n=xs.length)\/∃ xs,bF K H p xs/\n=xs.length
 |_=>False
def uB:bZ X (.builtin "len") (λxs H Q=>∃ x n,xs=[x]/\Cn X.K x H n/\Q (.int n) H):=by
 intro Y s U H xs us Q I r h;obtain⟨x,n,rfl,e,q⟩:=h;obtain⟨u,rfl,rx⟩:=vals1 r;have hl:=dZ;have hs:bn=16777216:=sizeLine_eq;cases x with
 |str y=>
  obtain⟨t,rfl⟩:=rx;obtain⟨hy,e'⟩:y.length<=bn/\n=y.length:=e;subst e';exact len_str nofun ⟨.int _,H,I.tok _,⟨_,rfl⟩,q⟩
 |byt y=>
  obtain⟨t,rfl⟩:=rx;obtain⟨hy,e'⟩:y.size<=bn/\n=y.size:=e;subst e';exact W.len_bytes nofun ⟨.int _,H,I.tok _,⟨_,rfl⟩,q⟩
 |ref p=>
  cases rx;have e':(∃ xs,aF X.K H p xs/\n=xs.length)\/∃ xs,bF X.K H p xs/\n=xs.length:=e;rcases e' with⟨xs,hx,e'⟩|⟨xs,hx,e'⟩
  .subst e';obtain⟨its,r',pl,hz⟩:=I.list hx;have hlen:=r'.length;exact Calls.call_len_list pl.isList (by simp only[ge];omega) ⟨.int xs.length,H,I.tok _,⟨_,by simp only[ge];rw[hlen]⟩,q⟩
  .subst e';obtain⟨its,r',pl,hz⟩:=I.tuple hx;have hlen:=r'.length;exact len_tuple pl (by simp only[ge];omega) ⟨.int xs.length,H,I.tok _,⟨_,by simp only[ge];rw[hlen]⟩,q⟩
 |_=>exact(show False from e).elim
end
structure oB (h:Heap) (x dx C:Addr) (mA:GF):Prop where
 obj:h.get? x=some (W.instObj C dx)
 ns:h.Ns1 dx mA
 ne:dx≠x
variable {mA:GF}
def f6 {dx:Addr}(n:h.Ns1 dx mA):∃ od,h.get? dx=some od/\∀ name,W.lookIn name od=some (mA name):=by
 obtain⟨o,es,ep,ho,hd,hk,_,hm⟩:=n;refine⟨o,ho,λname=>?_⟩;have e:=hm name;unfold nsFind findBy at e;rw[<-Array.find?_toList]at e;unfold W.lookIn;rw[hd];dsimp only
 split
 .rename_i y q;rw[q]at e;exact congrArg some e
 .rename_i q;rw[q]at e;have a:es.toList.any (·.refKey)=false:=by
   rw[any_eq_false];intro y hy;obtain⟨z,t,hkey⟩:=hk y (Array.mem_toList_iff.mp hy);simp[DictEntry.refKey,hkey]
  have a':¬ es.toList.any (·.refKey)=true:=by rw[a];exact Bool.false_ne_true
  rw[if_neg a'];exact congrArg some e
variable {C:Addr}
def oB.look {x dx:Addr}(I:oB h x dx C mA):∃ od,W.InstAt h x (W.instObj C dx) C (some od)/\∀ name,W.lookIn name od=some (mA name):=
 let⟨od,ho,hl⟩:=f6 I.ns
 ⟨od,⟨I.obj,rfl,rfl,ho⟩,hl⟩
variable {pl:Sem Bool}{kw:List (Str×Value)}
section
variable {prog:Program}{w:World}{A:Around}{E:GC}{s:Shared}{K:W.Frag}{x dx C f:Addr}{mA:GF}{name:Str}{v:Value}
def get_map {expr:Bool}(X:K.In s.heap)(I:oB s.heap x dx C mA)(hg:W.plainGet K C name=true)(hh:W.hasDictIn K C=true)
  (ha:W.findIn K (.ref C) name=some none) (hv:mA name=some v) (hv':W.handedIn v=true) (h:Q v { s with toks:=s.toks+1 }):
  wpAny (model prog w) A (getAttr (.ref x) name expr) Q E s:=by
 obtain⟨od,J,hl⟩:=I.look;exact W.get_value X J (W.plainGet_of hg).1 (W.findObj_own hh ha rfl (by rw[hl,hv])) hv' h
def vB {Q:Value×List Value->Shared->Prop}(X:K.In s.heap)(I:oB s.heap x dx C mA)(hg:W.plainGet K C name=true)
  (hf:W.findIn K (.ref C) name=some (some (.ref f))) (ht:W.isFn K (.ref f)=true) (hv:mA name=none) (h:Q (.ref f,[.ref x]) s):
  wpAny (model prog w) A (getMethod (.ref x) name pl) Q E s:=by
 obtain⟨od,J,hl⟩:=I.look;exact W.method_fn X J (W.plainGet_of hg).1 (W.plainGet_of hg).2 hf (beq_iff_eq.mp ht) (by show(W.lookIn name od).map (·.isSome)=some false;rw[hl,hv];rfl) h
def xg {ns:List Str}{Q:GB}(X:K.In s.heap)(I:oB s.heap x dx C mA)
  (hs:W.findIn K (.ref C) "__setattr__"=some (some (.builtin "object.__setattr__"))) (hp:W.plainOver K C=true) (ht:W.takerIn K C name=some none) (hh:W.hasDictIn K C=true)
  (hw:PySem.Within mA ns) (hsz:ns.length<=bn)
  (h:∀ h',oB h' x dx C (λy=>if y=name then some v else mA y)->Heap.SameBut dx s.heap h'->Q () { s with heap:=h',toks:=s.toks+2 }):
  wpAny (model prog w) A (setAttr (.ref x) name v) Q E s:=by
 obtain⟨od,J,hl⟩:=I.look;refine W.set_plain X J hs (W.osa_open (s:={ s with toks:=s.toks+1 }) (r:=none) X J hp ht λb=>?_);obtain⟨cd,hc,hd'⟩:=W.any_some hh;have hx:s.heap.get? x=some ⟨.ref C,some dx,.plain,#[]⟩:=I.obj;refine ad (am (ad (ad (wpAny_loadPart hx (ad (W.Looks.here (s:={ s with toks:=s.toks+1 }) (W.looks_clsIn X hc) ?_))))));rw[hd'];refine am (a:=some dx) (ad (am (ad ?_)));refine wpAny_nsSet1 (s:={ s with toks:=s.toks+1 }) I.ns λh' hn2 hs2=>?_
 obtain⟨oD,esD,epD,hoD,hdD,hcD⟩:=hn2.count (PySem.Within.cons name v hw);refine ad (wpAny_lookBehind hoD (by rw[hdD];exact pastItsLine_dict (Nat.le_trans hcD (by rw[length_cons];omega))) ?_);exact am (h _ ⟨(hs2.2 _ (Ne.symm I.ne)).trans I.obj,hn2,I.ne⟩ hs2)
def sW {R:Result->Shared->Prop}{vs:List Value}(X:K.In s.heap)(hm:W.makesIn K C=true)
  (hi:W.findIn K (.ref C) "__init__"=some (some (.ref f))) (hf:W.typeIn K (.ref f)=some (.type "function"))
  (h:codeAny (model prog w) (A.under (.builtin "type.__call__" ⟨.ref C::vs,kw⟩)) (.call (.ref f) ⟨.ref (s.heap.objs.size+1)::vs,kw⟩) (W.InitBack (s.heap.objs.size+1) R)
   { s with heap:=(s.heap.push W.emptyDict).push (W.instObj C s.heap.objs.size) }):
  codeAny (model prog w) A (.call (.ref C) ⟨vs,kw⟩) R s:=by
 obtain⟨hh,g,d,t,os⟩:=s;exact W.make_core (W.makes_of X hm) (W.looks_findIn X hi) (λself=>W.bind_fn X self hf) (.inl rfl) h
end
abbrev cp (f:Str)(v:V):List (Str×V)->List (Str×V)
 | []=>[(f,v)]
 |(g,x)::r=>if g=f then(g,v)::r else(g,x)::cp f v r
def cY (f g:Str)(v:V):∀ fs:List (Str×V),(cp f v fs).lookup g=if g=f then some v else fs.lookup g
 | []=>by
  show List.lookup g [(f,v)]=_
  by_cases h:g=f
  .have hb:(g ==f)=true:=beq_iff_eq.mpr h;simp only[List.lookup,hb,if_pos h]
  .have hb:(g ==f)=false:=beq_eq_false_iff_ne.mpr h;simp only[List.lookup,hb,if_neg h]
 |(k,x)::r=>by
  have ih:=cY f g v r;rw[show cp f v ((k,x)::r)=(if k=f then(k,v)::r else(k,x)::cp f v r) from rfl]
  by_cases hk:k=f
  .rw[if_pos hk]
   by_cases h:g=k
   .have hb:(g ==k)=true:=beq_iff_eq.mpr h;simp only[List.lookup,hb,if_pos (h.trans hk)]
   .have hb:(g ==k)=false:=beq_eq_false_iff_ne.mpr h;simp only[List.lookup,hb,if_neg (λe:g=f=>h (e.trans hk.symm))]
  .rw[if_neg hk]
   by_cases h:g=k
   .have hb:(g ==k)=true:=beq_iff_eq.mpr h;simp only[List.lookup,hb,if_neg (λe:g=f=>hk (h.symm.trans e))]
   .have hb:(g ==k)=false:=beq_eq_false_iff_ne.mpr h;simp only[List.lookup,hb];exact ih
def cq (f:Str)(v:V):∀ fs:List (Str×V),f ∈ (cp f v fs).map (·.1)/\∀ g,g ∈ fs.map (·.1)->g ∈ (cp f v fs).map (·.1)
 | []=>⟨by simp[cp],λg h=>by simp at h⟩
 |(k,x)::r=>by
  obtain⟨i1,i2⟩:=cq f v r;rw[show cp f v ((k,x)::r)=(if k=f then(k,v)::r else(k,x)::cp f v r) from rfl]
  by_cases hk:k=f
  .rw[if_pos hk];subst hk;exact⟨by simp,λg h=>by simpa using h⟩
  .rw[if_neg hk];refine⟨?_,λg h=>?_⟩
   .rw[map_cons];exact dl _ i1
   .rw[map_cons]at h⊢;rcases lv.mp h with e|e
    .exact lv.mpr (.inl e)
    .exact dl _ (i2 g e)
def cX (f:Str)(v:V):∀ fs:List (Str×V),(cp f v fs).length<=fs.length+1
 | []=>by simp[cp]
 |(k,x)::r=>by
  have ih:=cX f v r;rw[show cp f v ((k,x)::r)=(if k=f then(k,v)::r else(k,x)::cp f v r) from rfl]
  by_cases hk:k=f
  .rw[if_pos hk,length_cons,length_cons];omega
  .rw[if_neg hk,length_cons,length_cons];omega
def cx.some_of {o:Option Value}(r:cx (some v) o):∃ u,o=some u/\RelV v u:=by
 cases o with
 |none=>exact(show False from r).elim
 |some u=>exact⟨u,rfl,r⟩
def cx.none_of {o:Option Value}(r:cx none o):o=none:=by
 cases o with
 |none=>rfl
 |some u=>exact(show False from r).elim
def jn (r:RelV v u):W.handedIn u=true:=by
 cases v with
 |non=>cases(show u=Value.none from r);rfl
 |bl b=>cases(show u=Value.bool b from r);rfl
 |int i=>obtain⟨t,e⟩:=(show ∃ t,u=Value.int i t from r);cases e;rfl
 |str x=>obtain⟨t,e⟩:=(show ∃ t,u=Value.str x t from r);cases e;rfl
 |byt b=>obtain⟨t,e⟩:=(show ∃ t,u=Value.bytes b t from r);cases e;rfl
 |flt b=>obtain⟨t,e⟩:=(show ∃ t,u=Value.float b t from r);cases e;rfl
 |ref a=>cases(show u=Value.ref a from r);rfl
 |ty n=>cases(show u=Value.type n from r);rfl
section
variable {P:Program}{w:World}{H H':Hp}{h h':Heap}{a C dx:Addr}{fs fs':List (Str×V)}
def dF (hok:dJ P w H h)(e:H a=some (.ins C dx fs)):∃ mA,oB h a dx C mA/\(∀ f,cx (fs.lookup f) (mA f))/\PySem.Within mA (fs.map (·.1))/\fs.length<=1000/\H dx=some (.own a):=by
 obtain⟨d,z,ne,ob,mA,n,r,q⟩:=(show aq P w H h a (.ins C dx fs) from hok a _ e);exact⟨mA,⟨ob,n,ne⟩,r,q,z,d⟩
end
structure xh (K:W.Frag) (C:Addr):Prop where
 pg:W.plainGet K C Str.empty=true
 hd:W.hasDictIn K C=true
 po:W.plainOver K C=true
 sa:W.findIn K (.ref C) "__setattr__"=some (some (.builtin "object.__setattr__"))
def xh.get (c:xh K C)(f:Str):W.plainGet K C f=true:=c.pg
abbrev dc (K:W.Frag)(C:Addr)(f:Str):Prop:=W.findIn K (.ref C) f=some none
def dc.Cu {f:Str}(n:dc K C f):W.takerIn K C f=some none:=by
 unfold W.takerIn;rw[show W.findIn K (.ref C) f=some none from n]
 rfl
structure Meth (K:W.Frag) (C:Addr) (m:Str) (f:Addr):Prop where
 at_:W.findIn K (.ref C) m=some (some (.ref f))
 fn:W.isFn K (.ref f)=true
 kp:W.keepIn K (.ref f)=true
section
variable {X:Cx}{Y:GD}{U:St}{H:Hp}{s:Shared}{a C dx:Addr}{fs:List (Str×V)}{f:Str}{v:V}{A:Around}{E:GC}
def nM {b:Bool}(I:Inv X Y U H s)(e:H a=some (.ins C dx fs))(c:xh X.K C)(n:dc X.K C f)(l:fs.lookup f=some v)
  (h:∀ u s',Inv X Y U H s'->RelV v u->Q u s'):wpAny (model X.prog X.w) A (getAttr (.ref a) f b) Q E s:=by
 obtain⟨mA,O,r,_,_,_⟩:=dF I.hok e;obtain⟨u,hu,ru⟩:=cx.some_of (v:=v) (o:=mA f) (by rw[<-l];exact r f);exact get_map I.bp O (c.get f) c.hd n hu (jn ru) (h u _ (I.tok _) ru)
def oq {m:Str}{g:Addr}{Q:Value×List Value->Shared->Prop}(I:Inv X Y U H s)(e:H a=some (.ins C dx fs))(c:xh X.K C)(k:Meth X.K C m g)(l:fs.lookup m=none)
  (h:Q (.ref g,[.ref a]) s):wpAny (model X.prog X.w) A (getMethod (.ref a) m pl) Q E s:=by
 obtain⟨mA,O,r,_,_,_⟩:=dF I.hok e;have hn:mA m=none:=cx.none_of (by rw[<-l];exact r m);exact vB I.bp O (c.get m) k.at_ k.fn hn h
def nG {y:V}{Q:GB}(I:Inv X Y U H s)(e:H a=some (.ins C dx fs))(c:xh X.K C)(n:dc X.K C f)(hl:fs.length<1000)(ry:RelV y u)
  (h:∀ s',Inv X Y U (upd H a (.ins C dx (cp f y fs))) s'->Q () s'):wpAny (model X.prog X.w) A (setAttr (.ref a) f u) Q E s:=by
 obtain⟨mA,O,r,wi,_,ho⟩:=dF I.hok e;have hz:(fs.map (·.1)).length<=bn:=by rw[ce,sizeLine_eq];omega
 refine xg I.bp O c.sa c.po n.Cu c.hd wi hz λh' O' sb=>h _ ?_
 have hd:∃ o,h'.get? dx=some o:=let⟨o,_,_,e',_⟩:=O'.ns;⟨o,e'⟩;refine I.write (x:=a) (e:=dx) (by rw[e];exact True.intro) (.inr ho) (λb q hb z=>(sb.2 b hb).trans z) hd ?_;refine⟨by rw[ah O.ne];exact ho,?_,O.ne,O'.obj,_,O'.ns,λg=>?_,λg hg=>?_⟩
 .have:=cX f y fs;omega
 .show cx ((cp f y fs).lookup g) (if g=f then some u else mA g);rw[cY]
  by_cases q:g=f
  .rw[if_pos q,if_pos q];exact ry
  .rw[if_neg q,if_neg q];exact r g
 .by_cases q:g=f
  .rw[q];exact(cq f y fs).1
  .refine(cq f y fs).2 g (wi g λz=>hg ?_);show(if g=f then some u else mA g)=none;rw[if_neg q];exact z
def Inv.made (I:Inv X Y U H s):Inv X Y U (upd (upd H s.heap.objs.size (.own (s.heap.objs.size+1))) (s.heap.objs.size+1) (.ins C s.heap.objs.size []))
  { s with heap:=(s.heap.push W.emptyDict).push (W.instObj C s.heap.objs.size) }:=by
 have e1:(s.heap.push W.emptyDict).get? s.heap.objs.size=some W.emptyDict:=tz s.heap rfl;have e2:((s.heap.push W.emptyDict).push (W.instObj C s.heap.objs.size)).get? (s.heap.objs.size+1)=some (W.instObj C s.heap.objs.size):=by
  have:=tz (s.heap.push W.emptyDict) (o:=W.instObj C s.heap.objs.size) rfl
  rwa [Heap.size_push]at this
 have e3:(s.heap.push W.emptyDict).Ns s.heap.objs.size (λ_=>none):=⟨W.emptyDict,#[],_,e1,rfl,(λe he=>absurd he (by simp)),λ_=>rfl⟩;have I1:=I.laid (a:=s.heap.objs.size) (o:=.own (s.heap.objs.size+1)) (h':=s.heap.push W.emptyDict) (t':=s.toks) (λb u q=>sw _ q) (pi _) ⟨_,e1⟩;refine I1.laid (a:=s.heap.objs.size+1) (o:=.ins C s.heap.objs.size []) (t':=s.toks) (λb u q=>sw _ q) (Nat.le_of_eq (Heap.size_push _ _)) ?_;have ne:s.heap.objs.size≠s.heap.objs.size+1:=pc (Nat.lt_succ_self _);refine⟨by rw[ah ne,ak],Nat.zero_le _,ne,e2,λ_=>none,(Heap.Ns1.of_empty e3).at λo q=>sw _ q,λ_=>True.intro,λy hy=>absurd rfl hy⟩
def wX {prog:Program}{env:Env}(hb:attributeBase e f env (eval e env)=eval e env)
  (h:wpAny (model prog w) A (eval e env) (λo s₁=>wpAny (model prog w) A (getAttr o f true) Q E s₁) E s):wpAny (model prog w) A (eval (.Attribute e f pos) env) Q E s:=
 Attribute_any_ h (by rw[arm_eval_Attribute,hb])
end
section
variable {X:Cx}{o e value:Expr}{f:Str}{pos pos' tpos:Pos}{ta tv:TE}
end
section
variable {X:Cx}{Y:GD}{U:St}{H:Hp}{s:Shared}{A:Around}{E:GC}{Q:GC}{c:Value}{b:Bool}
inductive eY (K:W.Frag) (H:Hp):V->Value->Prop where
 |non:eY K H .non (.type "NoneType")
 |bl (x:Bool):eY K H (.bl x) (.type "bool")
 |int (i:Int):eY K H (.int i) (.type "int")
 |str (x:Str):eY K H (.str x) (.type "str")
 |flt (x:UInt64):eY K H (.flt x) (.type "float")
 |lst {a:Addr}{xs:List V}(e:H a=some (.lst xs)):eY K H (.ref a) (.type "list")
 |aH {a:Addr}{o:Obj}{xs:List V}(e:H a=some (.aH o (.lst xs))):eY K H (.ref a) (.type "list")
 |tup {a:Addr}{xs:List V}(e:H a=some (.tup xs)):eY K H (.ref a) (.type "tuple")
 |dK {a:Addr}{kvs:List (Key×V)}(e:Rd H a (.dK kvs)):eY K H (.ref a) (.type "dict")
 |dT {a:Addr}{kvs:List (List Key×V)}(e:H a=some (.dT kvs)):eY K H (.ref a) (.type "dict")
 |ins {a C dx:Addr}{fs:List (Str×V)}(e:H a=some (.ins C dx fs)) (cl:xh K C) (ha:W.findIn K (.ref C) "__class__"=some (some (.builtin "object.__class__")))
   (hn:W.specialIn K (.builtin "object.__class__") "__get__"=some (some (.builtin "getset_descriptor.__get__"))) (htk:W.takesIn K (.builtin "object.__class__")=some true)
   (hm:W.mroIn K C (.type "object")=some true):eY K H (.ref a) (.ref C)
def fZ {x:V}{t:Value}(I:Inv X Y U H s)(rx:RelV x u)(ty:eY X.K H x t)(e:W.kitOne X.K t c=some b)(h:∀ tk,Q (.bool b) { s with toks:=tk }):
  wpAny (model X.prog X.w) A (call (.builtin "isinstance") [u,c]) Q E s:=by
 cases ty with
 |non=>cases(show u=Value.none from rx);exact W.kia_one W.kitx_none I.bp True.intro e (λz=>nomatch z) h
 |bl y=>cases(show u=Value.bool y from rx);exact W.kia_one W.kitx_bool I.bp True.intro e (λz=>nomatch z) h
 |int i=>obtain⟨t,q⟩:=(show ∃ t,u=Value.int i t from rx);cases q;exact W.kia_one W.kitx_int I.bp True.intro e (λz=>nomatch z) h
 |str y=>obtain⟨t,q⟩:=(show ∃ t,u=Value.str y t from rx);cases q;exact W.kia_one W.kitx_str I.bp True.intro e (λz=>nomatch z) h
 |flt y=>obtain⟨t,q⟩:=(show ∃ t,u=Value.float y t from rx);cases q;exact W.kia_one W.kitx_float I.bp True.intro e (λz=>nomatch z) h
 | @lst a xs ea=>
  cases(show u=Value.ref a from rx);obtain⟨_,_,n,_,h1⟩:=(show aq X.prog X.w H s.heap a (.lst xs) from I.hok a _ ea);exact W.kia_one W.kitx_list I.bp ⟨_,h1,rfl⟩ e (λz=>nomatch z) h
 | @aH a ob xs ea=>
  cases(show u=Value.ref a from rx);obtain⟨_,_,_,n,_,h1⟩:=(show aq X.prog X.w H s.heap a (.aH ob (.lst xs)) from I.hok a _ ea);exact W.kia_one W.kitx_list I.bp ⟨_,h1,rfl⟩ e (λz=>nomatch z) h
 | @tup a xs ea=>
  cases(show u=Value.ref a from rx);obtain⟨_,_,_,p⟩:=(show aq X.prog X.w H s.heap a (.tup xs) from I.hok a _ ea);obtain⟨o,h1,h2,_⟩:=p;exact W.kia_one W.kitx_tuple I.bp ⟨o,h1,h2⟩ e (λz=>nomatch z) h
 | @dK a kvs ea=>
  cases(show u=Value.ref a from rx);obtain⟨_,_,vs,_,p⟩:=(show aq X.prog X.w H s.heap a (.dK kvs) from ea.ok I.hok);obtain⟨o,es,ep,h1,h2,_⟩:=p;exact W.kia_one W.kitx_dict I.bp ⟨o,h1,h2.1⟩ e (λz=>nomatch z) h
 | @dT a kvs ea=>
  cases(show u=Value.ref a from rx);obtain⟨_,_,xs,_,o,es,ep,h1,h2,_⟩:=(show aq X.prog X.w H s.heap a (.dT kvs) from I.hok a _ ea);exact W.kia_one W.kitx_dict I.bp ⟨o,h1,h2.1⟩ e (λz=>nomatch z) h
 | @ins a C dx fs ea cl ha hn htk hm=>
  cases(show u=Value.ref a from rx);obtain⟨mA,O,_⟩:=dF I.hok ea;obtain⟨od,J,_⟩:=O.look;exact W.kia_one (W.kitx_own (cl.get _) cl.hd ha hn htk hm) I.bp J e (λz=>nomatch z) h
end
structure bh (k:Nat) (A:Around):Prop where
 hd:A.handled=none
 dp:A.depth+3*k+5<recursionLimit
 un:A.units+16*k+200<cLine
def bh.mono {j:Nat}(r:bh k A)(h:j<=k):bh j A:=⟨r.hd,by have:=r.dp;omega,by have:=r.un;omega⟩
def bh.deeper (r:bh (k+1) A)(env:Env):bh k (A.deeper env):=
 ⟨r.hd,by have:=r.dp;show A.depth+1+3*k+5<_;omega,by have:=r.un;show A.units+3+16*k+200<_;omega⟩
def n6:(A.under (.builtin "type.__call__" ⟨.ref C::us,kw⟩)).depth=A.depth+1:=by
 first|rfl|simp[Around.under,Code.weight,Code.isCreation,Code.isGuard,Code.isCaller,Code.frames,Code.isFrame,guardIds]
def nP:(A.under (.builtin "type.__call__" ⟨.ref C::us,kw⟩)).units=A.units+1:=by
 first|rfl|simp[Around.under,Code.cUnits,Code.frames,Code.isFrame]
def bh.make (r:bh (k+1) A)(C:Addr)(us:List Value)(kw:List (Str×Value)):bh k (A.under (.builtin "type.__call__" ⟨.ref C::us,kw⟩)):=
 ⟨r.hd,by have:=r.dp;rw[n6];omega,by have:=r.un;rw[nP];omega⟩
def bh.depth (r:bh k A):A.depth<recursionLimit:=by have:=r.dp;omega
abbrev yb:TA:=λ_ H Q=>Q [] H
abbrev zb (ta:TE)(tr:TA):TA:=λU H Q=>ta U H λx H1=>tr U H1 λxs H2=>Q (x::xs) H2
section
variable {X:Cx}{e:Expr}{es:List Expr}{te:TE}{t:TA}{pos:Pos}
def dn:PA X [] yb:=λ_ _ _ _ H Q I h=>Calls.spliced_nil ⟨[],H,I,.nil,h⟩
def xP (ha:PE X e te)(hr:PA X es t)(hs:bm (e::es) X.env=(false,eval e X.env)::bm es X.env:=by rfl):PA X (e::es) (zb te t):=by
 intro pos Y s U H Q I h;rw[hs];show wpAny _ _ (spliced ((false,eval e X.env)::backTo pos (bm es X.env))) _ _ s;refine Calls.spliced_cons (aB (ha Y s U H _ I h) λu s1 ⟨x,H1,I1,r1,q1⟩=>?_);exact aB (hr pos Y s1 U H1 _ I1 q1) λus s2 ⟨xs,H2,I2,r2,q2⟩=>⟨x::xs,H2,I2,.cons r1 r2,q2⟩
abbrev Ee (t:TA):TE:=λU H Q=>t U H λxs H1=>xs.length<=bn/\∀ p,H1 p=none->Q (.ref p) (upd H1 p (.tup xs))
abbrev EY (t:TA):TE:=λU H Q=>t U H λxs H1=>xs.length<=bn/\∀ p,H1 p=none->Q (.ref p) (upd H1 p (.lst xs))
def tD {x1} (h:PA X es t):PE X (.Tuple es x1 pos) (Ee t):=by
 intro Y s U H Q I hq;refine wpAny_Tuple_spliced (aB (h pos Y s U H _ I hq) λus s1 ⟨xs,H1,I1,r,z,q⟩=>⟨by rw[<-r.length];exact z,?_⟩);have hf:H1 s1.heap.objs.size=none:=I1.hok.fresh (pi _);refine⟨.ref s1.heap.objs.size,upd H1 s1.heap.objs.size (.tup xs),I1.laid (t':=s1.toks) (λb u e=>sw _ e) (pi _) ?_,rfl,q _ hf⟩;exact⟨z,us,r,⟨_,tz _ rfl,rfl,_,rfl⟩⟩
def zL (h:PA X es t):PE X (.List es pos) (EY t):=by
 intro Y s U H Q I hq;refine wpAny_List_spliced (aB (h pos Y s U H _ I hq) λus s1 ⟨xs,H1,I1,r,z,q⟩=>⟨by rw[<-r.length];exact z,?_⟩);have hf:H1 s1.heap.objs.size=none:=I1.hok.fresh (pi _);refine⟨.ref s1.heap.objs.size,upd H1 s1.heap.objs.size (.lst xs),I1.laid (t':=s1.toks) (λb u e=>sw _ e) (pi _) ?_,rfl,q _ hf⟩;exact⟨z,us,0,r,tz _ rfl⟩
end
@[reducible]def Sp:=List V->Hp->VK->XK->Prop
@[reducible]def pJ:=List Env->Hp->Shared->XK->Value->Shared->Prop
structure nK (P:Program) (w:World) (K:W.Frag) (mg:GF) (base:Heap) (A:Around) (outer:List Env) (s:Shared) (H:Hp):Prop where
 frames:A.frames=some outer
 mod:Mod K mg base
 bs:∀ b o,base.get? b=some o->s.heap.get? b=some o/\H b=none
 bsz:base.objs.size<=s.heap.objs.size
 gN:s.heap.FunFrames base outer
 frf:∀ b ∈ kA outer,H b=none
 hok:dJ P w H s.heap
 bare:AllBare s.gens
abbrev CE (outer:List Env)(P:Program)(w:World)(H:Hp)(s:Shared)(Q:VK)(u:Value)(s':Shared):Prop:=
 ∃ v H',s'.os=s.os/\AllBare s'.gens/\Un (kA outer) [] H H' s.heap s'.heap/\dJ P w H' s'.heap/\RelV v u/\Q v H'
abbrev CR (CX:pJ)(outer:List Env)(P:Program)(w:World)(H:Hp)(s:Shared)(Q:VK)(E:XK)(r:Result)(s':Shared):Prop:=
 match r with
 | .ok (.ret u)=>CE outer P w H s Q u s'
 | .ok _=>False
 | .error e=>CX outer H s E e s'
structure cC (P:Program) (w:World) (K:W.Frag) (mg:GF) (base:Heap) (CX:pJ) (k:Nat) (f:Addr) (fd:FuncData) (ps:List Str) (sp:Sp):Prop where
 len:∀ vs H Q E,sp vs H Q E->vs.length=ps.length
 run:∀ (A:Around) (outer:List Env) (s:Shared) (H:Hp) (args:Args) (us:List Value) (vs:List V) (Q:VK) (E:XK),bh k A->nK P w K mg base A outer s H->BindsTo s fd args (ps.zip us)->Vals vs us->sp vs H Q E->
  codeAny (model P w) A (.call (.ref f) args) (CR CX outer P w H s Q E) s
variable {mg:GF}{base:Heap}{CX:pJ}{fd:FuncData}{ps:List Str}
def cC.imp {f:Addr}{sp sp':Sp}(F:cC P w K mg base CX k f fd ps sp)
  (h:∀ vs H Q E,sp' vs H Q E->sp vs H Q E):cC P w K mg base CX k f fd ps sp':=
 ⟨λvs H Q E q=>F.len vs H Q E (h _ _ _ _ q),λA outer s H args us vs Q E hr he hb hv hs=>F.run A outer s H args us vs Q E hr he hb hv (h _ _ _ _ hs)⟩
variable {outer:List Env}
def nK.make (e:nK P w K mg base A outer s H)(C:Addr)(us:List Value)(kw:List (Str×Value)):
  nK P w K mg base (A.under (.builtin "type.__call__" ⟨.ref C::us,kw⟩)) outer s H:=⟨by first|exact e.frames|(simpa[Around.under,Code.envs,Code.isFrame,pushEnvs] using e.frames),e.mod,e.bs,e.bsz,e.gN,e.frf,e.hok,e.bare⟩
section
variable {X:Cx}{Y:GD}{U:St}{H:Hp}{s s':Shared}
def Inv.fS (I:Inv X Y U H s):nK X.prog X.w X.K X.mg X.base X.A X.stack s H:=
 ⟨I.ok.frames,I.ok.mod,I.bs,Nat.le_trans I.ok.bsz I.sz,I.stack,I.j4,I.hok,I.bare⟩
def Inv.after {Q:VK}(I:Inv X Y U H s)(h:CE X.stack X.prog X.w H s Q u s'):EP X Y U Q u s':=by
 obtain⟨v,H',os,bare,un,hok,r,q⟩:=h;obtain⟨hh,g,d,t,os'⟩:=s';obtain rfl:os'=s.os:=os;exact⟨v,H',I.call (h':=hh) (g':=g) (d':=d) (t':=t) (ch:=[]) un hok bare (λb z=>absurd z (by simp)),r,q⟩
end
abbrev yP (sp:Sp)(dvs:List V)(E:St->XK)(t:TA):TE:=λU H Q=>t U H λvs H1=>sp (vs++dvs) H1 Q (E U)
abbrev yy (C:Addr)(sp:Sp)(dvs:List V)(E:St->XK)(t:TA):TE:=λU H Q=>t U H λvs H1=>∀ x dx,H1 x=none->H1 dx=none->dx≠x->
 sp (.ref x::(vs++dvs)) (upd (upd H1 dx (.own x)) x (.ins C dx [])) (λv H2=>v=.non/\Q (.ref x) H2) (E U)
abbrev Binds (K:W.Frag)(fd:FuncData)(ps:List Str)(ds:List Value):Prop:=
 ∀ (s:Shared) (us:List Value),K.In s.heap->(us++ds).length=ps.length->BindsTo s fd ⟨us,[]⟩ (ps.zip (us++ds))
def Binds.all (h:∀ us:List Value,us.length=ps.length->bindArgs fd ⟨us,[]⟩=pure (ps.zip us)):Binds K fd ps []:=λs us _ hl=>by
 rw[append_nil]at hl⊢;exact .of_eq (h us hl)
abbrev Passes (CX:pJ)(X:Cx)(E:St->XK):Prop:=∀ (Y:GD) (U:St) (H:Hp) (s:Shared) (e:Value) (s':Shared),Inv X Y U H s->CX X.stack H s (E U) e s'->X.xe e s'
variable {vs:List V}
section
variable {X:Cx}{CX:pJ}{k:Nat}{f C:Addr}{fd:FuncData}{ps:List Str}{sp:Sp}{dvs:List V}{ds:List Value}{E:St->XK}{x m:Str}{p pos apos:Pos}{e o:Expr}{es:List Expr}{ta:TE}{t:TA}
def km {Q:VK}(F:cC X.prog X.w X.K X.mg X.base CX k f fd ps sp)(hr:bh k X.A)(hb:Binds X.K fd ps ds)(hd:Vals dvs ds)(hx:Passes CX X E)
  (I:Inv X Y U H s) (r:Vals vs us) (h:sp (vs++dvs) H Q (E U)):wpAny (model X.prog X.w) X.A (call (.ref f) us) (EP X Y U Q) X.xe s:=by
 have r2:Vals (vs++dvs) (us++ds):=r.append hd;have hl:(us++ds).length=ps.length:=by rw[<-r2.length];exact F.len _ _ _ _ h
 refine wpAny_call (codeAny_mono (F.run X.A X.stack s H ⟨us,[]⟩ (us++ds) (vs++dvs) Q (E U) hr I.fS (hb s us I.bp hl) r2 h) λr s' hq=>?_);cases r with
 |error e=>exact hx Y U H s e s' I hq
 |ok fl=>
  cases fl with
  |ret u=>exact I.after hq
  |next=>exact False.elim hq
  |brk=>exact False.elim hq
  |cont=>exact False.elim hq
def wq (F:cC X.prog X.w X.K X.mg X.base CX k f fd ps sp)(hr:bh k X.A)(hg:Gl X x)(hm:X.mg x=some (.ref f))(hk:W.keepIn X.K (.ref f)=true)(hb:Binds X.K fd ps ds)(hd:Vals dvs ds)(hx:Passes CX X E)
  (ha:PA X (e::es) t) (hdb:(x ==("__debug__":Str))=false:=by decide) (he:bm (e::es) X.env=(false,eval e X.env)::bm es X.env:=by rfl) (hpl:(backTo pos (bm es X.env)).any (·.1)=false:=by rfl):
  PE X (.Call (.Name x p) (e::es) [] pos) (yP sp dvs E t):=by
 intro Y s U H Q I h;refine bv (aY I hg hm ?_ hdb);refine W.callWith_K (h₀:=X.base) I.ok.mod.kin hk (aB (ha pos Y s U H _ I h) λus s1 ⟨vs,H1,I1,r,q⟩=>⟨I1.bp,?_⟩) he hpl;exact km F hr hb hd hx I1 r q
def uT (F:cC X.prog X.w X.K X.mg X.base CX k f fd ps sp)(hr:bh k X.A)(hg:Gl X x)(hm:X.mg x=some (.ref f))(hk:W.keepIn X.K (.ref f)=true)(hb:Binds X.K fd ps ds)(hd:Vals dvs ds)(hx:Passes CX X E)
  (hdb:(x ==("__debug__":Str))=false:=by decide):PE X (.Call (.Name x p) [] [] pos) (yP sp dvs E yb):=by
 intro Y s U H Q I h;refine bv (aY I hg hm ?_ hdb);exact W.callWith_K0 I.bp hk (km (us:=[]) F hr hb hd hx I .nil h)
structure Mk (K:W.Frag) (C f:Addr):Prop where
 makes:W.makesIn K C=true
 init:W.findIn K (.ref C) "__init__"=some (some (.ref f))
 fn:W.isFn K (.ref f)=true
 kp:W.keepIn K (.ref C)=true
def lF {Q:VK}(M:Mk X.K C f)(F:cC X.prog X.w X.K X.mg X.base CX k f fd ps sp)(hr:bh (k+1) X.A)(hb:Binds X.K fd ps ds)(hd:Vals dvs ds)
  (hx:Passes CX X E) (I:Inv X Y U H s) (r:Vals vs us)
  (h:∀ x dx,H x=none->H dx=none->dx≠x->sp (.ref x::(vs++dvs)) (upd (upd H dx (.own x)) x (.ins C dx [])) (λv H2=>v=.non/\Q (.ref x) H2) (E U)):
  wpAny (model X.prog X.w) X.A (call (.ref C) us) (EP X Y U Q) X.xe s:=by
 have hq:=h (s.heap.objs.size+1) s.heap.objs.size (I.hok.fresh (Nat.le_succ _)) (I.hok.fresh (pi _)) (pc (Nat.lt_succ_self _));have I2:=Inv.made (C:=C) I;have r2:Vals (V.ref (s.heap.objs.size+1)::(vs++dvs)) (Value.ref (s.heap.objs.size+1)::(us++ds)):=.cons rfl (r.append hd);have hl:(Value.ref (s.heap.objs.size+1)::us++ds).length=ps.length:=by
  have e:=r2.length;rw[F.len _ _ _ _ hq]at e;exact e.symm
 refine wpAny_call (sW (f:=f) I.bp M.makes M.init (beq_iff_eq.mp M.fn) (codeAny_mono (F.run _ X.stack _ _ ⟨Value.ref (s.heap.objs.size+1)::us,[]⟩ (Value.ref (s.heap.objs.size+1)::(us++ds)) _ _ (E U) (hr.make C us [])
  (I2.fS.make C us []) (hb _ (Value.ref (s.heap.objs.size+1)::us) I2.bp hl) r2 hq) λr s' hq'=>?_))
 cases r with
 |error e=>exact hx Y U _ _ e s' I2 hq'
 |ok fl=>
  cases fl with
  |ret u=>
   obtain⟨v,H',I3,rv,ev,q3⟩:=I2.after hq';subst ev;exact⟨rv,⟨V.ref (s.heap.objs.size+1),H',I3,rfl,q3⟩⟩
  |next=>exact False.elim hq'
  |brk=>exact False.elim hq'
  |cont=>exact False.elim hq'
def xE (M:Mk X.K C f)(F:cC X.prog X.w X.K X.mg X.base CX k f fd ps sp)(hr:bh (k+1) X.A)(hg:Gl X x)(hm:X.mg x=some (.ref C))(hb:Binds X.K fd ps ds)(hd:Vals dvs ds)(hx:Passes CX X E)
  (ha:PA X (e::es) t) (hdb:(x ==("__debug__":Str))=false:=by decide) (he:bm (e::es) X.env=(false,eval e X.env)::bm es X.env:=by rfl) (hpl:(backTo pos (bm es X.env)).any (·.1)=false:=by rfl):
  PE X (.Call (.Name x p) (e::es) [] pos) (yy C sp dvs E t):=by
 intro Y s U H Q I h;refine bv (aY I hg hm ?_ hdb);refine W.callWith_K (h₀:=X.base) I.ok.mod.kin M.kp (aB (ha pos Y s U H _ I h) λus s1 ⟨vs,H1,I1,r,q⟩=>⟨I1.bp,?_⟩) he hpl;exact lF M F hr hb hd hx I1 r q
def tJ (M:Mk X.K C f)(F:cC X.prog X.w X.K X.mg X.base CX k f fd ps sp)(hr:bh (k+1) X.A)(hg:Gl X x)(hm:X.mg x=some (.ref C))(hb:Binds X.K fd ps ds)(hd:Vals dvs ds)(hx:Passes CX X E)
  (hdb:(x ==("__debug__":Str))=false:=by decide):PE X (.Call (.Name x p) [] [] pos) (yy C sp dvs E yb):=by
 intro Y s U H Q I h;refine bv (aY I hg hm ?_ hdb);exact W.callWith_K0 I.bp M.kp (lF (us:=[]) M F hr hb hd hx I .nil h)
end
section
variable {X:Cx}{CX:pJ}{k:Nat}{f C:Addr}{fd:FuncData}{ps ks:List Str}{sp:Sp}{E:St->XK}{x m:Str}{p pos apos kpos:Pos}{e o:Expr}{es:List Expr}{kws:List Keyword}{te ta:TE}{t tk:TA}{nm:Option Str}
variable {g:List Value->List Value->List Value}{gV:List V->List V->List V}
end
structure gR (N P:List Str) (sc:Scope):Prop where
 kind:sc.kind=.function
 co:sc.isCoroutine=false
 gen:sc.isGenerator=false
 nd:N.Nodup
 pre:N.take P.length=P
 par:∀ x ∈ P,sc.names.lookup x=some .local\/sc.names.lookup x=some .cell
 nofree:∀ y ∈ sc.names,y.2≠.free
def jN {kindOf:Str->Option NameKind}{x:Str}:∀ {binds:List (Str×Value)}{m:GF},(∀ v,(x,v) ∉ binds)->bindL kindOf binds m x=m x
 | [],_,_=>rfl
 |(n,v)::r,m,h=>by
  unfold bindL;rw[jN λw hw=>h w (dl _ hw)]
  split
  .have:x≠n:=by rintro rfl;exact h v li
   simp[this]
  .rfl
def jy {kindOf:Str->Option NameKind}{x:Str}:∀ {binds:List (Str×Value)}{m:GF},(∀ v,(x,v) ∉ binds)->bindC kindOf binds m x=m x
 | [],_,_=>rfl
 |(n,v)::r,m,h=>by
  unfold bindC;rw[jy λw hw=>h w (dl _ hw)]
  split
  .rfl
  .have:x≠n:=by rintro rfl;exact h v li
   simp[this]
def jA {kindOf:Str->Option NameKind}{x:Str}{v:Value}:∀ {P:List Str}{vs:List Value}{i:Nat}{m:GF},P.Nodup->P[i]? =some x->vs[i]? =some v->kindOf x=some .local->
  bindL kindOf (P.zip vs) m x=some v
 | [],_,_,_,_,h,_,_=>by simp at h
 |_::_,[],_,_,_,_,h,_=>by simp at h
 |p::P,w::vs,0,m,nd,h1,h2,hk=>by
  simp at h1 h2;subst h1;subst h2;show bindL kindOf ((p,w)::P.zip vs) m p=_;unfold bindL;rw[jN λv hv=>(nodup_cons.mp nd).1 (of_mem_zip hv).1,if_pos hk];simp
 |p::P,w::vs,i+1,m,nd,h1,h2,hk=>by
  show bindL kindOf ((p,w)::P.zip vs) m x=_;unfold bindL;exact jA (i:=i) (nodup_cons.mp nd).2 (by simpa using h1) (by simpa using h2) hk
def jl {kindOf:Str->Option NameKind}{x:Str}{v:Value}:∀ {P:List Str}{vs:List Value}{i:Nat}{m:GF},P.Nodup->P[i]? =some x->vs[i]? =some v->kindOf x≠some .local->
  bindC kindOf (P.zip vs) m x=some v
 | [],_,_,_,_,h,_,_=>by simp at h
 |_::_,[],_,_,_,_,h,_=>by simp at h
 |p::P,w::vs,0,m,nd,h1,h2,hk=>by
  simp at h1 h2;subst h1;subst h2;show bindC kindOf ((p,w)::P.zip vs) m p=_;unfold bindC;rw[jy λv hv=>(nodup_cons.mp nd).1 (of_mem_zip hv).1,if_neg hk];simp
 |p::P,w::vs,i+1,m,nd,h1,h2,hk=>by
  show bindC kindOf ((p,w)::P.zip vs) m x=_;unfold bindC;exact jl (i:=i) (nodup_cons.mp nd).2 (by simpa using h1) (by simpa using h2) hk
abbrev start (N:List Str)(vs:List V):St:=vs.map some++sn (N.length-vs.length) none
abbrev qV (CX:pJ)(P:Program)(w:World)(K:W.Frag)(mg:GF)(base:Heap)(N:List Str)(qual:Str)(scope:Scope)(f:Addr)(cd:Value)(A:Around)(outer:List Env)(s:Shared)(H:Hp)(E:XK):Cx where
 prog:=P
 w:=w
 K:=K
 mg:=mg
 base:=base
 A:=A.deeper (envOfC qual scope s.heap.objs.size f cd)
 N:=N
 s₀:=s
 H₀:=H
 env:=envOfC qual scope s.heap.objs.size f cd
 outer:=outer
 stack:=envOfC qual scope s.heap.objs.size f cd::outer
 ex:=[]
 calm:=true
 fn:=λ_=>true
 pn:=[]
 xe:=λe s'=>wpAny (model P w) (A.deeper (envOfC qual scope s.heap.objs.size f cd)) (leaving (envOfC qual scope s.heap.objs.size f cd) e) (λ_ s''=>CX outer H s E e s'') (λe' s''=>CX outer H s E e' s'') s'
def lC {sc:Scope}{n:Nat}(h:sc.names.lookup x=some .cell):∃ c,(cellsFrom n sc.names []).lookup x=some c:=by
 have q:=W.cellsFrom_some sc.names n [] (.inl h);exact Option.isSome_iff_exists.mp q
variable {scope:Scope}
def qO {N:List Str}{qual:Str}{f:Addr}{cd:Value}{s1:Shared}{E:XK}
  (S:gR N ps scope) (hd:A.handled=none) (e0:nK P w K mg base A outer s H) (hl:vs.length=ps.length) (r:Vals vs us)
  (x:InCallC s s.heap.objs.size (bindL (envOfC qual scope s.heap.objs.size f cd).kindOf (ps.zip us) λ_=>none) (cellsFrom (s.heap.objs.size+1) scope.names []) (bindC (envOfC qual scope s.heap.objs.size f cd).kindOf (ps.zip us) λ_=>none) s1):
  Inv (qV CX P w K mg base N qual scope f cd A outer s H E) [] (start N vs) H s1:=by
 have hpl:ps.length<=N.length:=by have:=congrArg List.length S.pre;rw[db]at this;omega
 obtain⟨h1,tk,rfl,hk⟩:=x.done;have noA:∀ b:Addr,b ∉ (qV CX P w K mg base N qual scope f cd A outer s H E).ex:=λb z=>absurd (show b ∈ ([]:List Addr) from z) (by simp)
 refine⟨⟨e0.mod,S.kind,rfl,rfl,pi _,λy z c h1 h2=>?_,λy hy=>?_,λy c _ h=>?_,λ_=>hd,Around.frames_deeper e0.frames,.inr ⟨rfl,rfl⟩,λb z=>absurd z (noA b),e0.bs,e0.bsz,λb _ _=>noA b,λb z=>absurd z (noA b),e0.gN,e0.frf⟩,
  rfl,e0.bare,Un.kept hk,⟨_,x.toInCall.ns,λi y v h1 h2 h3=>?_⟩,λy c h=>⟨_,x.cell y c h⟩,e0.hok.fresh (pi _),λy c h=>?_,λp hp=>absurd (show p ∈ ([]:GD) from hp) (by simp),e0.hok.kept hk,?_⟩
 .exact name_of_addr x.apart (PySem.mem_of_lookup h1) (PySem.mem_of_lookup h2)
 .have hy:scope.names.lookup y=some .cell\/scope.names.lookup y=some .free:=hy;rcases hy with hy|hy
  .exact lC hy
  .exact absurd rfl (S.nofree _ (PySem.mem_of_lookup hy))
 .exact Nat.le_of_lt (x.above y c (PySem.mem_of_lookup h))
 .have hi:i<vs.length:=by
   unfold start at h2
   by_cases hi:i<vs.length
   .exact hi
   .rw[getElem?_append_right (by simpa using hi)]at h2;rw[List.getElem?_replicate]at h2
    split at h2<;>cases h2
  have ha:vs[i]? =some v:=by
   unfold start at h2;rw[getElem?_append_left (by simpa using hi),io]at h2;cases e:vs[i]? with
   |none=>rw[e]at h2;cases h2
   |some a=>rw[e]at h2;cases h2;rfl
  obtain⟨u,hu,rv⟩:=r.get ha;have hp:ps[i]? =some y:=by
   rw[<-S.pre,List.getElem?_take_of_lt nofun];exact h1
  have ndP:ps.Nodup:=by rw[<-S.pre];exact S.nd.sublist (take_sublist _ _)
  refine⟨u,rv,?_⟩;rcases S.par y (cr hp) with k|k
  .exact .inl ⟨k,jA ndP hp hu k⟩
  .obtain⟨c,e⟩:=lC (n:=s.heap.objs.size+1) k;refine .inr ⟨.inl k,c,e,?_⟩;have q:=x.cell y c e;rw[jl ndP hp hu (by show scope.names.lookup y≠_;rw[k];decide)]at q;exact q
 .exact e0.hok.fresh (Nat.le_of_lt (x.above y c (PySem.mem_of_lookup h)))
 .unfold start;show _=N.length;rw[ci,ce,List.length_replicate]
  omega
def C3 {f:Addr}{name qual:Str}{params:Arguments}{dV kV doc pm cdv ct oc:Value}{an od:Option Addr}
  {osl:Array (Option Value)}{N:List Str}{sp:Sp}(lk:K.lookup f=some ⟨oc,od,.func (W.fnOf name qual params body scope dV kV doc pm an cdv ct),osl⟩) (hcd:W.codeIn K cdv qual=true) (S:gR N ps scope)
  (len:∀ vs H Q E,sp vs H Q E->vs.length=ps.length)
  (hbody:∀ (A:Around) (outer:List Env) (s:Shared) (H:Hp) (vs:List V) (Q:VK) (E:XK),bh k (A.deeper (envOfC qual scope s.heap.objs.size f cdv))->sp vs H Q E->
   ∃ t,yD (qV CX P w K mg base N qual scope f cdv A outer s H E) body t/\t { nx:=λ_ H'=>Q .non H',rt:=Q } (start N vs) H):
  cC P w K mg base CX (k+1) f (W.fnOf name qual params body scope dV kV doc pm an cdv ct) ps sp:=by
 refine⟨len,λA outer s H args us vs Q E hr e0 hb r hsp=>?_⟩;have hl:=len _ _ _ _ hsp;have KX:K.In s.heap:=e0.mod.kin.keeps λb o e=>(e0.bs b o e).1
 have lim:s.heap.NoLimit:=e0.mod.nolimit.keeps λb o e=>(e0.bs b o e).1
 have hkind:∀ y ∈ ps.zip us,scope.names.lookup y.1=some .local\/(scope.names.lookup y.1=some .cell/\((cellsFrom (s.heap.objs.size+1) scope.names []).lookup y.1).isSome=true):=λ⟨n,v⟩ hy=>by
  rcases S.par n (of_mem_zip hy).1 with q|q
  .exact .inl q
  .exact .inr ⟨q,W.cellsFrom_some _ _ _ (.inl q)⟩
 refine codeAny_call_function hr.depth (KX _ _ lk) rfl S.co S.gen rfl (W.codeRec_of KX hcd) (hb _ _ _ _ ?_);refine wpAny_newFunctionEnv_cells S.kind hkind λenv he s1 x=>?_
 subst he;refine⟨lim.keeps x.toInCall.keep,codeAny_func ?_⟩;obtain⟨t,ht,hq⟩:=hbody A outer s H vs Q E (hr.deeper _) hsp;have I:Inv (qV CX P w K mg base N qual scope f cdv A outer s H E) [] (start N vs) H s1:=qO S hr.hd e0 hl r x;refine wpAny_mono (ht [] s1 (start N vs) H _ I hq) (λfl s' hs=>?_) λe s' hs=>hs
 have fin:∀ {σ':St}{H':Hp}{v:V}{u:Value},Inv (qV CX P w K mg base N qual scope f cdv A outer s H E) [] σ' H' s'->RelV v u->Q v H'->CE outer P w H s Q u s':=
  λ{σ' H' v u} J rv q=>⟨v,H',J.os,J.bare,J.base,J.hok,rv,q⟩
 cases fl with
 |ret u=>
  obtain⟨v,σ',H',J,rv,q⟩:=hs;exact fin J rv q
 |next=>
  obtain⟨σ',H',J,q⟩:=hs;exact fin (v:=V.non) (u:=Value.none) J rfl q
 |brk=>
  obtain⟨_,_,_,q⟩:=hs;exact False.elim q
 |cont=>
  obtain⟨_,_,_,q⟩:=hs;exact False.elim q
section
variable {X:Cx}{x:Str}{p pos:Pos}{e:Expr}{es:List Expr}{t:TA}{id T:String}{r:List V->Hp->VK->Prop}
abbrev Fm (r:List V->Hp->VK->Prop)(t:TA):TE:=λU H Q=>t U H λvs H1=>r vs H1 Q
def iK (hc:bZ X (.builtin id) r)(hg:Gl X x)(hm:X.mg x=none)(hv:bootBuiltins x=some (.builtin id))(ha:PA X (e::es) t)(hn:x≠"__name__":=by decide) (hdb:(x ==("__debug__":Str))=false:=by decide)
  (he:bm (e::es) X.env=(false,eval e X.env)::bm es X.env:=by rfl) (hpl:(backTo pos (bm es X.env)).any (·.1)=false:=by rfl):PE X (.Call (.Name x p) (e::es) [] pos) (Fm r t):=by
 intro Y s U H Q I h;refine bv (hJ I hg hm hv ?_ hn hdb);exact PyProof.Rows.callWith_builtin1 (aB (ha pos Y s U H _ I h) λus s1 ⟨vs,H1,I1,r1,q1⟩=>hc Y s1 U H1 vs us Q I1 r1 q1) he hpl
def qC (hc:bZ X (.type T) r)(hg:Gl X x)(hm:X.mg x=none)(hv:bootBuiltins x=some (.type T))(ha:PA X (e::es) t)(hn:x≠"__name__":=by decide) (hdb:(x ==("__debug__":Str))=false:=by decide)
  (he:bm (e::es) X.env=(false,eval e X.env)::bm es X.env:=by rfl) (hpl:(backTo pos (bm es X.env)).any (·.1)=false:=by rfl):PE X (.Call (.Name x p) (e::es) [] pos) (Fm r t):=by
 intro Y s U H Q I h;refine bv (hJ I hg hm hv ?_ hn hdb);exact PyProof.Rows.callWith_type1 (aB (ha pos Y s U H _ I h) λus s1 ⟨vs,H1,I1,r1,q1⟩=>hc Y s1 U H1 vs us Q I1 r1 q1) he hpl
end
end L2
namespace HT
open PySem PyProof.Rows
section
open PySem.SeqAt
open PySem.AutoSeq1 (wpAny_loadPart')
open PySem.MeetsSeq PySem.MeetsSeq2 PySem.MeetsSeq3
end
variable {Q:GC}
section
variable {prog:Program}{w:World}{A:Around}{E:GC}{s:Shared}
def xI {t b:Addr}{vs ws:List Value}(ht:IsTup s.heap t vs.toArray)(hb:IsTup s.heap b ws.toArray)(hv:vs≠[])
  (h1:ws=[]->Q (.ref t) s) (h2:ws≠[]->Q (.ref s.heap.objs.size) { s with heap:=s.heap.push { cls:=.type "tuple",data:=.seq (vs++ws).toArray } })
  (hsz:vs.length+ws.length<=bn):wpAny (model prog w) A (binaryOp .Add (.ref t) (.ref b)) Q E s:=by
 obtain⟨⟨cls,dd,data,sl⟩,ho,hc,n,hd⟩:=id ht;obtain⟨⟨cls2,dd2,data2,sl2⟩,ho2,hc2,n2,hd2⟩:=id hb;simp only at hc hd hc2 hd2;subst hc hd hc2 hd2;have e:vs.toArray++ws.toArray=(vs++ws).toArray:=by simp
 by_cases hw:ws=[]
 .exact concat_meets ⟨_,ho,rfl⟩ ⟨_,ho2,rfl⟩ noFill_tuple_add seq_tuple_add PySem.F.slot_tuple_add PySem.F.entry_tuple_add (PySem.F.args_tuple_add_2 _ _)
   (tuple_addW1 t b vs.toArray ws.toArray n n2 dd dd2 sl sl2 (by simpa using hv) (by simp[hw])) ⟨ho,ho2,h1 hw⟩
 .refine concat_meets ⟨_,ho,rfl⟩ ⟨_,ho2,rfl⟩ noFill_tuple_add seq_tuple_add PySem.F.slot_tuple_add PySem.F.entry_tuple_add (PySem.F.args_tuple_add_2 _ _)
   (tuple_addW2 t b vs.toArray ws.toArray n n2 dd dd2 sl sl2 (by simpa using hv) (by simpa using hw) (by rw[ge,ge];exact hsz)) ⟨ho,ho2,?_⟩
  rw[e];exact h2 hw
abbrev bb (n d:Nat):Option Int->Nat
 |none=>d
 |some v=>if v<0 then(v+(n:Int)).toNat else min v.toNat n
def BL (n d:Nat)(hd:d<=n)(o:Option Int):bb n d o<=n:=by
 cases o with
 |none=>exact hd
 |some v=>
  show(if v<0 then(v+(n:Int)).toNat else min v.toNat n)<=n
  by_cases hv:v<0
  .rw[if_pos hv];omega
  .rw[if_neg hv];exact Nat.min_le_right _ _
def pR (v:Int)(n d:Nat):(if v<0 then max (v+(n:Int)) 0 else min v (n:Int))=((bb n d (some v):Nat):Int):=by
 show(if v<0 then max (v+(n:Int)) 0 else min v (n:Int))=(((if v<0 then(v+(n:Int)).toNat else min v.toNat n):Nat):Int)
 by_cases hv:v<0
 .simp only[if_pos hv];omega
 .simp only[if_neg hv];omega
def nc (lo hi:Option Int)(n:Nat):Builtin.Slice.sliceAdjust lo hi 1 (n:Int)=(((bb n 0 lo:Nat):Int),((bb n n hi:Nat):Int)):=by
 have h1:¬ ((1:Int)<0):=by omega
 unfold Builtin.Slice.sliceAdjust;simp only[h1,if_false];refine Prod.ext ?_ ?_
 .cases lo with
  |none=>rfl
  |some v=>exact pR v n 0
 .cases hi with
  |none=>rfl
  |some v=>exact pR v n n
def o7 (i j:Nat):Builtin.Slice.slicePlaces (i:Int) (j:Int) 1=j-i:=by
 unfold Builtin.Slice.slicePlaces;have h1:(1:Int)>0:=by omega
 simp only[h1,if_true,Int.ediv_one]
 split<;>omega
def ie {v:Value}{o:Option Int}{Q:Option Int->Shared->Prop}(p:IsPart v o)(h:Q o s):wpAny (model prog w) A (Builtin.Slice.slicePartIndex v) Q E s:=by
 cases p with
 |none=>exact slicePart_none h
 |int i t=>exact slicePart_int h
def fV {sl:Addr}{vl vu:Value}{lo hi:Option Int}{n:Nat}{Q:Int×Int×Nat->Shared->Prop}(hs:s.heap.IsSliceOf sl vl vu .none)(pl:IsPart vl lo)(pu:IsPart vu hi)
  (h:Q (((bb n 0 lo:Nat):Int),1,bb n n hi-bb n 0 lo) s):wpAny (model prog w) A (Builtin.Slice.sliceApplied (.ref sl) (pure (n:Int))) Q E s:=by
 obtain⟨os,hos,hcs,hds⟩:=id hs;unfold Builtin.Slice.sliceApplied Builtin.Slice.sliceFields;refine ad (ad (ap hos hds (x:=vl) rfl (ad (ap hos hds (x:=vu) rfl (ad (ap hos hds (x:=.none) rfl (am ?_)))))));refine ad (slicePart_none ?_);show wpAny _ _ (if((1:Int) ==0)=true then _ else _) _ _ s;rw[if_neg (by decide)];refine ad (ie pl (ad (ie pu (ad (am ?_)))));show wpAny _ _ (match Builtin.Slice.sliceAdjust lo hi 1 (n:Int) with|(lo,hi)=>pure (lo,(1:Int),Builtin.Slice.slicePlaces lo hi 1)) _ _ s;rw[nc lo hi n];show wpAny _ _ (pure (((bb n 0 lo:Nat):Int),(1:Int),Builtin.Slice.slicePlaces ((bb n 0 lo:Nat):Int) ((bb n n hi:Nat):Int) 1)) _ _ s;rw[o7];exact am h
def t9 (xs:Array Value)(i k:Nat):((List.range k).filterMap λ(m:Nat)=>xs[((i:Int)+(m:Int)*1).toNat]?).toArray=((xs.toList.drop i).take k).toArray:=by
 have e:(λ(m:Nat)=>xs[((i:Int)+(m:Int)*1).toNat]?)=λm=>xs[i+m]? :=by
  funext m
  have:((i:Int)+(m:Int)*1).toNat=i+m:=by omega
  rw[this]
 rw[e];have:=pick_run xs i k;rw[List.filterMap_map]at this;have e2:((λx=>xs[x]?)∘λx=>i+x)=λm=>xs[i+m]? :=rfl
 rw[e2]at this;rw[this]
def fj {t sl:Addr}{items:Array Value}{vl vu:Value}{lo hi:Option Int}(ht:IsTup s.heap t items)(hs:s.heap.IsSliceOf sl vl vu .none)(pl:IsPart vl lo)(pu:IsPart vu hi)
  (hw:¬ (bb items.size 0 lo=0/\bb items.size items.size hi=items.size))
  (h:Q (.ref s.heap.objs.size) { s with heap:=s.heap.push { cls:=.type "tuple",data:=.seq ((items.toList.drop (bb items.size 0 lo)).take (bb items.size items.size hi-bb items.size 0 lo)).toArray } })
  (hsz:items.size<=bn):wpAny (model prog w) A (getItem (.ref t) (.ref sl)) Q E s:=by
 have htake:sizeOk (.seq ((items.toList.drop (bb items.size 0 lo)).take (bb items.size items.size hi-bb items.size 0 lo)).toArray):=by
  show((items.toList.drop (bb items.size 0 lo)).take (bb items.size items.size hi-bb items.size 0 lo)).toArray.size<=bn;rw[ge,db,jp,Array.length_toList]
  omega
 have hj:bb items.size items.size hi<=items.size:=BL _ _ (pi _) hi;obtain⟨os,hos,hcs,hds⟩:=id hs;have hTs:s.TypeIs (.ref sl) "slice":=⟨os,hos,hcs⟩;unfold getItem
 try with_reducible refine bd ?_
 first|refine ad (am ?_)|skip
 refine ad (wpAny_sequenceKey ht.typeIs (by decide) ?_);refine ad (wpAny_callSpecial?_slot (name:=Str.ofString "__getitem__") ht.typeIs PyProof.Rows.slot_tuple_getitem
  (wpAny_call_entry PyProof.Rows.slot_tuple_getitem ht.typeIs entry_tuple_getitem ?_ (args_tuple_getitem _ _)))
 show wpAny _ _ (Builtin.Tuple.tupleItemsOf (.ref t) >>= _) _ _ s;refine ad (tupleItemsOf_ ht ?_);refine ad (wpAny_typeOf hTs ?_);rw[if_pos (by decide)];refine ad (fV hs pl pu ?_);have hno:¬ ((((bb items.size 0 lo:Nat):Int) ==0&&(1:Int) ==1&&(bb items.size items.size hi-bb items.size 0 lo) ==items.size)=true):=by
  intro q;rw[lw,lw]at q;have q1:((bb items.size 0 lo:Nat):Int)=0:=eq_of_beq q.1.1;have q2:bb items.size items.size hi-bb items.size 0 lo=items.size:=eq_of_beq q.2;exact hw ⟨by omega,by omega⟩
 show wpAny _ _ (if(((bb items.size 0 lo:Nat):Int) ==0&&(1:Int) ==1&&(bb items.size items.size hi-bb items.size 0 lo) ==items.size)=true then _ else _) _ _ s;rw[if_neg hno,t9]
 first
  |exact ad (m:=Builtin.Tuple.tupleExact _) (wpAny_newObj_type (am ⟨_,rfl,am h⟩) htake)
  |exact ad (m:=Builtin.Tuple.tupleExact _) (wpAny_newObj_type (ad (am (am ⟨_,rfl,am h⟩))) htake)
  |exact ad (ad (m:=Builtin.Tuple.tupleExact _) (wpAny_newObj_type (am (am ⟨_,rfl,am h⟩)) htake))
  |exact ad (ad (m:=Builtin.Tuple.tupleExact _) (wpAny_newObj_type (am ⟨_,rfl,am h⟩) htake))
end
end HT
namespace L2
open PySem PySem.Spec PyProof.Rows
@[reducible]def TO:=St->Hp->(Option Int->Hp->Prop)->Prop
abbrev PO (X:Cx)(e:Option Expr)(t:TO):Prop:=
 ∀ (Y:GD) (s:Shared) (U:St) (H:Hp) (Q:Option Int->Hp->Prop),Inv X Y U H s->t U H Q->
  wpAny (model X.prog X.w) X.A (evalPart e X.env) (λu s'=>∃ o H',Inv X Y U H' s'/\IsPart u o/\Q o H') X.xe s
abbrev yn:TO:=λ_ H Q=>Q none H
abbrev DG (t:TE):TO:=λU H Q=>t U H λx H1=>∃ i,x=.int i/\Q (some i) H1
variable {us:List Value}
section
variable {X:Cx}{e:Expr}{te:TE}{lo hi:Option Expr}{tl th:TO}{pos p2:Pos}
def wt:PO X none yn:=by
 intro Y s U H Q I h;rw[evalPart_none];exact am ⟨none,H,I,.none,h⟩
def pk (h:PE X e te):PO X (some e) (DG te):=by
 intro Y s U H Q I hw;rw[evalPart_some];refine aB (h Y s U H _ I hw) λu s1 ⟨x,H1,I1,r1,q1⟩=>?_
 obtain⟨i,rfl,q⟩:=q1;obtain⟨t,rfl⟩:=r1;exact⟨some i,H1,I1,.int i t,q⟩
abbrev Cf (X:Cx)(r:V->Option Int->Option Int->Hp->VK->Prop):Prop:=
 ∀ (Y:GD) (s:Shared) (U:St) (H:Hp) (x:V) (v vl vu:Value) (lo hi:Option Int) (sl:Addr) (Q:VK),Inv X Y U H s->RelV x v->s.heap.IsSliceOf sl vl vu .none->IsPart vl lo->IsPart vu hi->r x lo hi H Q->
  ∃ T id,typeLookup (.type T) "__getitem__"=pure (some (.builtin id))/\s.TypeIs v T/\wpAny (model X.prog X.w) X.A (getItem v (.ref sl)) (EP X Y U Q) X.xe s
abbrev FV (r:V->Option Int->Option Int->Hp->VK->Prop)(te:TE)(tl th:TO):TE:=λU H Q=>te U H λx H1=>tl U H1 λl H2=>th U H2 λu H3=>r x l u H3 Q
def uO {r:V->Option Int->Option Int->Hp->VK->Prop}(hr:Cf X r)(he:PE X e te)(hl:PO X lo tl)(hu:PO X hi th):PE X (.Subscript e (.Slice lo hi none p2) pos) (FV r te tl th):=by
 intro Y s U H Q I h;refine Subscript_ (aB (he Y s U H _ I h) λv s1 ⟨x,H1,I1,r1,q1⟩=>?_);refine wpAny_Slice (aB (hl Y s1 U H1 _ I1 q1) λvl s2 ⟨l,H2,I2,pl,q2⟩=>aB (hu Y s2 U H2 _ I2 q2) λvu s3 ⟨u,H3,I3,pu,q3⟩=>?_);rw[evalPart_none];refine am ?_;have I4:Inv X Y U H3 { s3 with heap:=s3.heap.push { cls:=.type "slice",data:=.fields #[vl,vu,.none] } }:=I3.kept (t':=s3.toks) λb ob q=>sw _ q
 obtain⟨T,id,hT,ht,hg⟩:=hr Y { s3 with heap:=s3.heap.push { cls:=.type "slice",data:=.fields #[vl,vu,.none] } } U H3 x v vl vu l u s3.heap.objs.size Q I4 r1 (Heap.IsSliceOf.new ..) pl pu q3;show wpAny (model X.prog X.w) X.A (subscriptTail e (.Slice lo hi none p2) v (.ref s3.heap.objs.size)) (EP X Y U Q) X.xe { s3 with heap:=s3.heap.push { cls:=.type "slice",data:=.fields #[vl,vu,.none] } };exact tail_any (ops:=[.ref s3.heap.objs.size,v]) ht hT hg (by with_unfolding_all rfl)
abbrev ft (xs:List V)(lo hi:Option Int):List V:=(xs.drop (HT.bb xs.length 0 lo)).take (HT.bb xs.length xs.length hi-HT.bb xs.length 0 lo)
def gq (xs:List V)(lo hi:Option Int):(ft xs lo hi).length<=xs.length:=by
 unfold ft;rw[db,jp]
 omega
abbrev CP (K:W.Frag):V->Option Int->Option Int->Hp->VK->Prop:=λx lo hi H Q=>∃ a xs,x=.ref a/\bF K H a xs/\
 ¬ (HT.bb xs.length 0 lo=0/\HT.bb xs.length xs.length hi=xs.length)/\∀ p,H p=none->Q (.ref p) (upd H p (.tup (ft xs lo hi)))
def Bj:Cf X (CP X.K):=by
 intro Y s U H x v vl vu lo hi sl Q I rx hs pl pu h;obtain⟨a,xs,rfl,hx,hw,q⟩:=h;cases rx;obtain⟨its,r,ht,hz⟩:=I.tuple hx;have hlen:its.toArray.size=xs.length:=by rw[ge];exact r.length.symm
 refine⟨"tuple",_,PyProof.Rows.slot_tuple_getitem.lookup,ht.typeIs,?_⟩;refine HT.fj ht hs pl pu (by rw[hlen];exact hw) ?_ (by rw[hlen];exact hz);rw[hlen];refine⟨.ref s.heap.objs.size,_,I.laid (t':=s.toks) (o:=.tup (ft xs lo hi)) (λb ob q=>sw _ q) (pi _) ?_,rfl,q _ (I.hok.fresh (pi _))⟩;exact⟨Nat.le_trans (gq xs lo hi) hz,_,(r.drop (HT.bb xs.length 0 lo)).take (HT.bb xs.length xs.length hi-HT.bb xs.length 0 lo),IsTup.new _ _⟩
abbrev uE (K:W.Frag):R2:=λx y H Q=>∃ a b xs ys,x=.ref a/\y=.ref b/\bF K H a xs/\bF K H b ys/\xs≠[]/\xs.length+ys.length<=bn/\
 (ys=[]->Q (.ref a) H)/\(ys≠[]->∀ p,H p=none->Q (.ref p) (upd H p (.tup (xs++ys))))
def Vals.kE {xs:List V}(r:Vals xs us):us=[] ↔ xs=[]:=by
 cases r with
 |nil=>simp
 |cons _ _=>simp
def wu:bT X (binaryOp .Add) (uE X.K):=by
 intro Y s U H x y v u Q I rx ry h;obtain⟨a,b,xs,ys,rfl,rfl,ha,hb,hx,hz,q1,q2⟩:=h;cases rx;cases ry;obtain⟨its,r1,p1,_⟩:=I.tuple ha;obtain⟨iJ,r2,p2,_⟩:=I.tuple hb;refine HT.xI p1 p2 (λz=>hx (r1.kE.mp z)) (λz=>⟨.ref a,H,I,rfl,q1 (r2.kE.mp z)⟩) (λz=>?_) (by rw[<-r1.length,<-r2.length];exact hz);refine⟨.ref s.heap.objs.size,_,I.laid (t':=s.toks) (o:=.tup (xs++ys)) (λb ob q=>sw _ q) (pi _) ?_,rfl,q2 (λw=>z (r2.kE.mpr w)) _ (I.hok.fresh (pi _))⟩;exact⟨by rw[ci];exact hz,_,r1.append r2,IsTup.new _ _⟩
end
abbrev xO (n:Nat)(i:Int):Option Nat:=if 0<=i then(if i<n then some i.toNat else none) else if -(n:Int)<=i then some (i+n).toNat else none
variable {α:Type}
abbrev gX (xs:List α)(i:Int):Option α:=(xO xs.length i).bind λj=>xs[j]?
variable {n:Nat}
def qa {i:Int}{j:Nat}(h:xO n i=some j):seqIndex? i n=some j/\j<n/\ -(n:Int)<=i/\i<n:=by
 unfold xO at h
 by_cases h0:0<=i
 .rw[if_pos h0]at h
  by_cases h1:i<n
  .rw[if_pos h1]at h;have e:i.toNat=j:=Option.some.inj h;exact⟨by rw[seqIndex_of h0 h1,e],by omega,by omega,h1⟩
  .rw[if_neg h1]at h;cases h
 .rw[if_neg h0]at h
  by_cases h1: -(n:Int)<=i
  .rw[if_pos h1]at h;have e:(i+n).toNat=j:=Option.some.inj h;exact⟨by rw[seqIndex_neg nofun h1,e],by omega,h1,by omega⟩
  .rw[if_neg h1]at h;cases h
def fL {xs:List α}{i:Int}{v:α}(h:gX xs i=some v):∃ j,seqIndex? i xs.length=some j/\xs[j]? =some v/\j<xs.length/\ -(xs.length:Int)<=i/\i<xs.length:=by
 unfold gX at h;cases e:xO xs.length i with
 |none=>rw[e]at h;cases h
 |some j=>
  rw[e]at h;obtain⟨h1,h2,h3,h4⟩:=qa e;exact⟨j,h1,h,h2,h3,h4⟩
def g8 {xs:List α}{j:Nat}{v:α}(h:xs[j]? =some v):gX xs (j:Int)=some v:=by
 have hj:j<xs.length:=(ss.mp h).1;have e:xO xs.length (j:Int)=some j:=by
  unfold xO;rw[if_pos nofun,if_pos nofun];simp
 unfold gX;rw[e];exact h
abbrev pd (b:Expr):Prop:=∀ o i,subscripted b false o i=operate [o,i] (getItem o i)
abbrev BZ (X:Cx)(r:R2):Prop:=
 ∀ (value slice:Expr) (Y:GD) (s:Shared) (U:St) (H:Hp) (x y:V) (v u:Value) (Q:VK),Inv X Y U H s->RelV x v->RelV y u->r x y H Q->
  subscripted slice false v u=operate [v,u] (getItem v u)->wpAny (model X.prog X.w) X.A (subscriptTail value slice v u) (EP X Y U Q) X.xe s
abbrev zQ (X:Cx)(id:String)(r:V->List V->Hp->VK->Prop):Prop:=
 ∀ (Y:GD) (s:Shared) (U:St) (H:Hp) (x:V) (xs:List V) (v:Value) (us:List Value) (Q:VK),Inv X Y U H s->RelV x v->Vals xs us->r x xs H Q->
  wpAny (model X.prog X.w) X.A (call (.builtin id) (v::us)) (EP X Y U Q) X.xe s
variable {Y:GD}{U:St}{H:Hp}{s:Shared}{y:V}{u:Value}
section
variable {X:Cx}{a b:Expr}{ta tb:TE}{pos:Pos}
def Ds {r:R2}(hr:BZ X r)(ha:PE X a ta)(hb:PE X b tb)(hs:pd b):PE X (.Subscript a b pos) (D0 r ta tb):=by
 intro Y s U H Q I h;exact Subscript_ (AG ha hb I h λv u s2 x y H2 I2 rx ry q=>hr a b Y s2 U H2 x y v u Q I2 rx ry q (hs _ _))
abbrev EO (K:W.Frag):R2:=λx y H Q=>∃ p xs i v,x=.ref p/\y=.int i/\aF K H p xs/\gX xs i=some v/\Q v H
abbrev Fb (K:W.Frag):R2:=λx y H Q=>∃ p xs i v,x=.ref p/\y=.int i/\bF K H p xs/\gX xs i=some v/\Q v H
abbrev EV:R2:=λx y H Q=>∃ z i c,x=.str z/\y=.int i/\z.length<=bn/\gX z.cps.toList i=some c/\Q (.str ⟨#[c]⟩) H
def xW:BZ X (EO X.K):=by
 intro value slice Y s U H x y v u Q I rx ry h hs;obtain⟨p,xs,i,z,rfl,rfl,hq,he,q⟩:=h;cases rx;obtain⟨t,rfl⟩:=ry;obtain⟨its,r,pl,hz⟩:=I.list hq;obtain⟨j,h1,h2,h3,h4,h5⟩:=fL he;obtain⟨w,ew,rw'⟩:=r.get h2;have hl:=r.length;have hn:=dZ;have fin:EP X Y U Q w s:=⟨z,H,I,rw',q⟩
 by_cases h0:0<=i
 .have hj:i.toNat=j:=by
   rw[seqIndex_of h0 h5]at h1;exact Option.some.inj h1
  exact item_listR pl.isList h0 nofun (by rw[hj];simpa using ew) fin hs
 .have hj:(i+(its.toArray.size:Int)).toNat=j:=by
   rw[seqIndex_neg nofun h4]at h1;rw[ge,<-hl];exact Option.some.inj h1
  exact subscriptTail_builtinR (x:=w) pl.isList.typeIs slot_list_getitem.lookup
   (wpAny_getItem_list_neg (Q:=λr s'=>r=w/\EP X Y U Q r s') pl.isList nofun (by rw[ge]<;>omega) nofun (by rw[hj];simpa using ew) ⟨rfl,fin⟩) hs
def Bv:BZ X (Fb X.K):=by
 intro value slice Y s U H x y v u Q I rx ry h hs;obtain⟨p,xs,i,z,rfl,rfl,hq,he,q⟩:=h;cases rx;obtain⟨t,rfl⟩:=ry;obtain⟨its,r,pl,hz⟩:=I.tuple hq;obtain⟨j,h1,h2,h3,h4,h5⟩:=fL he;obtain⟨w,ew,rw'⟩:=r.get h2;have hl:=r.length;have hn:=dZ;have fin:EP X Y U Q w s:=⟨z,H,I,rw',q⟩;exact subscriptTail_builtinR (x:=w) pl.typeIs slot_tuple_getitem.lookup
  (getItem_tuple (j:=j) (Q:=λr s'=>r=w/\EP X Y U Q r s') pl nofun nofun (by rw[ge,<-hl];exact h1) (by simpa using ew) ⟨rfl,fin⟩) hs
def BV:BZ X EV:=by
 intro value slice Y s U H x y v u Q I rx ry h hs;obtain⟨z,i,c,rfl,rfl,hz,he,q⟩:=h;obtain⟨t,rfl⟩:=rx;obtain⟨t',rfl⟩:=ry;obtain⟨j,h1,h2,h3,h4,h5⟩:=fL he;have hl:z.cps.toList.length=z.length:=by simp[Str.length]
 rw[hl]at h1 h4 h5;have hn:=dZ;exact tail_any (typeIs_str s z t) slot_str_getitem.lookup (getItem_str (c:=c) (by
  have e1:decide (i< -(2 ^ 63:Int))=false:=decide_eq_false nofun;have e2:decide (i>=2 ^ 63)=false:=decide_eq_false nofun;rw[e1,e2,Bool.or_false]) (by rw[h1];simpa using h2) ⟨.str ⟨#[c]⟩,H,I.tok _,⟨_,rfl⟩,q⟩) hs
def nq (its:List Value)(n j:Nat)(u:Value):Obj.mapSeq (·.setIfInBounds j u) { cls:=.type "list",data:=.seq its.toArray n }={ cls:=.type "list",data:=.seq (its.set j u).toArray n }:=by
 simp[Obj.mapSeq]
def Inv.lst {Y:GD}{U:St}{H:Hp}{s:Shared}{p:Addr}{xs:List V}(I:Inv X Y U H s)(h:H p=some (.lst xs)):
  ∃ (its:List Value) (n:Nat),Vals xs its/\s.heap.get? p=some { cls:=.type "list",data:=.seq its.toArray n }/\xs.length<=bn:=by
 obtain⟨z,its,n,r,e⟩:=I.hok p _ h;exact⟨its,n,r,e,z⟩
def Inv.Ac {p:Addr}{xs ys:List V}{its its':List Value}{n':Nat}{f:Obj->Obj}(I:Inv X Y U H s)(h:H p=some (.lst xs))
  (ho:s.heap.get? p=some { cls:=.type "list",data:=.seq its.toArray n }) (hf:f { cls:=.type "list",data:=.seq its.toArray n }={ cls:=.type "list",data:=.seq its'.toArray n' }) (r:Vals ys its') (hz:ys.length<=bn) (t:Nat):
  Inv X Y U (upd H p (.lst ys)) { s with heap:=s.heap.update p f,toks:=t }:=by
 have e:(s.heap.update p f).get? p=some { cls:=.type "list",data:=.seq its'.toArray n' }:=by
  rw[Heap.get?_update_self f ho (by rw[hf]<;>rfl),hf]
 refine I.write (x:=p) (e:=p) (by rw[h];trivial) (.inl rfl) (λb u hb q=>(Heap.get?_update_other _ _ (Ne.symm hb)).trans q) ⟨_,e⟩ ?_;exact⟨hz,its',n',r,e⟩
abbrev Cp:V->V->V->Hp->(Hp->Prop)->Prop:=λo i v H Q=>∃ p xs k j,o=.ref p/\i=.int k/\H p=some (.lst xs)/\xO xs.length k=some j/\Q (upd H p (.lst (xs.set j v)))
def set_list:yh X Cp:=by
 intro Y s U H o i v ov iv u Q I ro ri rv h;obtain⟨p,xs,k,j,rfl,rfl,hp,hj,q⟩:=h;cases ro;obtain⟨t,rfl⟩:=ri;obtain⟨its,n,r,ho,hz⟩:=I.lst hp;obtain⟨h1,h2,h3,h4⟩:=qa hj;have hl:=r.length;have hn:=dZ;have I':Inv X Y U (upd H p (.lst (xs.set j v))) { s with heap:=s.heap.update p (Obj.mapSeq (·.setIfInBounds j u)) }:=
  I.Ac hp ho (nq its n j u) (r.set rv j) (by rw[length_set];exact hz) s.toks
 by_cases h0:0<=k
 .have hk:k.toNat=j:=by
   rw[seqIndex_of h0 h4]at h1;exact Option.some.inj h1
  exact W.ki_setAt ho h0 nofun (by rw[ge,<-hl];exact h4) (by rw[hk];exact⟨_,I',q⟩)
 .have hk:(k+(its.toArray.size:Int)).toNat=j:=by
   rw[seqIndex_neg nofun h3]at h1;rw[ge,<-hl];exact Option.some.inj h1
  exact W.ki_setBack ho nofun (by rw[ge,<-hl];exact h3) nofun (by rw[hk];exact⟨_,I',q⟩)
def jT (lo hi:Option Int)(n:Nat):(sliceBounds lo hi none n).1=((HT.bb n 0 lo:Nat):Int)/\(sliceBounds lo hi none n).2.1=((HT.bb n n hi:Nat):Int)/\(sliceBounds lo hi none n).2.2=1:=by
 refine⟨?_,?_,rfl⟩
 .cases lo with
  |none=>simp[sliceBounds,HT.bb]
  |some i=>
   simp only[sliceBounds,HT.bb,Option.getD_none,show(1:Int)>0 by decide,if_true]
   by_cases h:i<0
   .simp only[h,if_true]<;>omega
   .simp only[h,if_false]<;>omega
 .cases hi with
  |none=>simp[sliceBounds,HT.bb]
  |some i=>
   simp only[sliceBounds,HT.bb,Option.getD_none,show(1:Int)>0 by decide,if_true]
   by_cases h:i<0
   .simp only[h,if_true]<;>omega
   .simp only[h,if_false]<;>omega
def iX (its:List Value)(lo hi:Option Int):slicePick its.toArray lo hi none=((its.drop (HT.bb its.length 0 lo)).take (HT.bb its.length its.length hi-HT.bb its.length 0 lo)).toArray:=by
 obtain⟨h1,h2,h3⟩:=jT lo hi its.toArray.size;unfold slicePick;rw[h1,h2,h3];simp only[sliceRange_one,pick_run,ge]<;>rfl
abbrev Em (K:W.Frag):V->Option Int->Option Int->Hp->VK->Prop:=λx lo hi H Q=>∃ a xs,x=.ref a/\aF K H a xs/\∀ p,H p=none->Q (.ref p) (upd H p (.lst (ft xs lo hi)))
def yu:Cf X (Em X.K):=by
 intro Y s U H x v vl vu lo hi sl Q I rx hs pl pu h;obtain⟨a,xs,rfl,hx,q⟩:=h;cases rx;obtain⟨its,r,ht,hz⟩:=I.list hx;have hlen:=r.length;refine⟨"list",_,slot_list_getitem.lookup,ht.isList.typeIs,?_⟩;refine wpAny_getItem_list_slice ht.isList hs pl pu .none (by simp) ?_ (by rw[ge]<;>omega);rw[iX,<-hlen];refine⟨.ref s.heap.objs.size,_,I.laid (t':=s.toks) (o:=.lst (ft xs lo hi)) (λb ob q=>sw _ q) (pi _) ?_,rfl,q _ (I.hok.fresh (pi _))⟩;exact⟨Nat.le_trans (gq xs lo hi) hz,_,0,(r.drop (HT.bb xs.length 0 lo)).take (HT.bb xs.length xs.length hi-HT.bb xs.length 0 lo),tz _ rfl⟩
abbrev aD:V->Bool
 | .non=>true
 | .bl _=>true
 | .int _=>true
 | .str _=>true
 |_=>false
abbrev gF:V->V->Bool
 | .non,.non=>true
 | .bl a,.bl b=>a ==b
 | .bl a,.int b=>(if a then 1 else 0) ==b
 | .int a,.bl b=>a ==(if b then 1 else 0)
 | .int a,.int b=>a ==b
 | .str a,.str b=>a ==b
 |_,_=>false
def sQ {A:Around}{x:V}{v:Value}(ry:RelV y u)(rx:RelV x v)(fy:aD y=true)(fx:aD x=true):SeqAt.EqAt A s u v (gF y x):=by
 cases y with
 |non=>
  cases ry;cases x with
  |non=>cases rx;exact SeqAt.EqAt.same _
  |bl b=>cases rx;exact SeqAt.EqAt.none_bool b
  |int b=>obtain⟨t,rfl⟩:=rx;exact SeqAt.EqAt.none_int b t
  |str b=>obtain⟨t,rfl⟩:=rx;exact SeqAt.EqAt.none_str b t
  |_=>exact absurd (show false=true from fx) Bool.false_ne_true
 |bl a=>
  cases ry;cases x with
  |non=>cases rx;exact SeqAt.EqAt.bool_none a
  |bl b=>cases rx;exact SeqAt.EqAt.bool_bool a b
  |int b=>obtain⟨t,rfl⟩:=rx;exact SeqAt.EqAt.bool_int a b t
  |str b=>obtain⟨t,rfl⟩:=rx;exact SeqAt.EqAt.bool_str a b t
  |_=>exact absurd (show false=true from fx) Bool.false_ne_true
 |int a=>
  obtain⟨t',rfl⟩:=ry;cases x with
  |non=>cases rx;exact SeqAt.EqAt.int_none a t'
  |bl b=>cases rx;exact SeqAt.EqAt.int_bool a t' b
  |int b=>obtain⟨t,rfl⟩:=rx;exact SeqAt.EqAt.int_int a t' b t
  |str b=>obtain⟨t,rfl⟩:=rx;exact SeqAt.EqAt.int_str a t' b t
  |_=>exact absurd (show false=true from fx) Bool.false_ne_true
 |str a=>
  obtain⟨t',rfl⟩:=ry;cases x with
  |non=>cases rx;exact SeqAt.EqAt.str_none a t'
  |bl b=>cases rx;exact SeqAt.EqAt.str_bool a t' b
  |int b=>obtain⟨t,rfl⟩:=rx;exact SeqAt.EqAt.str_int a t' b t
  |str b=>obtain⟨t,rfl⟩:=rx;exact SeqAt.EqAt.str_str a t' b t
  |_=>exact absurd (show false=true from fx) Bool.false_ne_true
 |_=>exact absurd (show false=true from fy) Bool.false_ne_true
abbrev nE (x:V)(u:Value):Bool:=match u with
 | .none=>gF .non x
 | .bool b=>gF (.bl b) x
 | .int i _=>gF (.int i) x
 | .str z _=>gF (.str z) x
 |_=>false
def tU {x:V}(r:RelV y u)(f:aD y=true):nE x u=gF y x:=by
 cases y with
 |non=>cases r;rfl
 |bl b=>cases r;rfl
 |int i=>obtain⟨t,rfl⟩:=r;rfl
 |str z=>obtain⟨t,rfl⟩:=r;rfl
 |_=>exact absurd (show false=true from f) Bool.false_ne_true
def ff {x:V}:∀ {xs:List V}{us:List Value},Vals xs us->xs.all aD=true->us.any (nE x)=xs.any λy=>gF y x
 |_,_,.nil,_=>rfl
 |y::xs,u::us,.cons r t,f=>by
  rw[all_cons,lw]at f;rw[any_cons,any_cons,tU r f.1,ff t f.2]
def dq {A:Around}{s:Shared}{x:V}{v:Value}(rx:RelV x v)(fx:aD x=true):∀ {xs:List V}{us:List Value},Vals xs us->xs.all aD=true->∀ u ∈ us,SeqAt.EqAt A s u v (nE x u)
 |_,_,.nil,_=>λu hu=>by cases hu
 |y::xs,u::us,.cons r t,f=>λu' hu=>by
  rw[all_cons,lw]at f;rcases lv.mp hu with rfl|hu
  .rw[tU r f.1];exact sQ r rx f.1 fx
  .exact dq rx fx t f.2 u' hu
abbrev sM (x:V)(xs:List V):Bool:=xs.any λy=>gF y x
abbrev Fe (K:W.Frag)(neg:Bool):R2:=λx y H Q=>∃ p xs,y=.ref p/\(aF K H p xs\/bF K H p xs)/\aD x=true/\xs.all aD=true/\Q (.bl (if neg then !sM x xs else sM x xs)) H
def qX:bT X (compareOp .In) (Fe X.K false):=by
 intro Y s U H x y v u Q I rx ry h;obtain⟨p,xs,rfl,hq,fx,fs,q⟩:=h;cases ry;rcases hq with hq|hq
 .obtain⟨its,r,pl,hz⟩:=I.list hq;refine SeqAt.in_listAt (nE x) pl.isList (λw hw=>dq rx fx r fs w (by simpa using hw)) ⟨.bl _,H,I,rfl,?_⟩;rw[show its.toArray.any (nE x)=its.any (nE x) by simp,ff r fs];exact q
 .obtain⟨its,r,pl,hz⟩:=I.tuple hq;refine SeqAt.in_tupleAt (nE x) pl (λw hw=>dq rx fx r fs w (by simpa using hw)) ⟨.bl _,H,I,rfl,?_⟩;rw[show its.toArray.any (nE x)=its.any (nE x) by simp,ff r fs];exact q
def kU:bT X (compareOp .NotIn) (Fe X.K true):=by
 intro Y s U H x y v u Q I rx ry h;obtain⟨p,xs,rfl,hq,fx,fs,q⟩:=h;cases ry;rcases hq with hq|hq
 .obtain⟨its,r,pl,hz⟩:=I.list hq;refine SeqAt.notIn_listAt (nE x) pl.isList (λw hw=>dq rx fx r fs w (by simpa using hw)) ⟨.bl _,H,I,rfl,?_⟩;rw[show its.toArray.any (nE x)=its.any (nE x) by simp,ff r fs];exact q
 .obtain⟨its,r,pl,hz⟩:=I.tuple hq;refine SeqAt.notIn_tupleAt (nE x) pl (λw hw=>dq rx fx r fs w (by simpa using hw)) ⟨.bl _,H,I,rfl,?_⟩;rw[show its.toArray.any (nE x)=its.any (nE x) by simp,ff r fs];exact q
def j9:bZ X (.type "list") (λxs H Q=>∃ p ys,xs=[.ref p]/\(aF X.K H p ys\/bF X.K H p ys)/\∀ l,H l=none->Q (.ref l) (upd H l (.lst ys))):=by
 intro Y s U H xs us Q I r h;obtain⟨p,ys,rfl,hq,q⟩:=h;obtain⟨u,rfl,rx⟩:=vals1 r;cases rx;have fin:∀ (its:List Value),Vals ys its->ys.length<=bn->∀ (h':Heap) (c':Nat),(∀ b o',s.heap.get? b=some o'->h'.get? b=some o')->
   h'.get? s.heap.objs.size=some { cls:=.type "list",dict:=none,data:=.seq its.toArray c',slots:=#[] }->EP X Y U Q (.ref s.heap.objs.size) { s with heap:=h' }:=λits r' hz h' c' kp e=>
  ⟨.ref s.heap.objs.size,_,I.laid (t':=s.toks) kp (pi _) (show aq X.prog X.w _ h' _ (.lst ys) from⟨hz,its,c',r',e⟩),rfl,q _ (I.hok.fresh (pi _))⟩
 rcases hq with hq|hq
 .obtain⟨its,r',pl,hz⟩:=I.list hq;have hlen:=r'.length;obtain⟨o,ho,hc,n,hd⟩:=pl.isList;exact call_list_seq p (.inl rfl) ho hc hd (λh' c' kp e=>fin its r' hz h' c' kp e) (by simp only[ge]<;>omega)
 .obtain⟨its,r',pl,hz⟩:=I.tuple hq;have hlen:=r'.length;obtain⟨o,ho,hc,n,hd⟩:=pl;exact call_list_seq p (.inr rfl) ho hc hd (λh' c' kp e=>fin its r' hz h' c' kp e) (by simp only[ge]<;>omega)
abbrev E3 (K:W.Frag)(T:String)(x:V)(H:Hp):Prop:=match x with
 | .str _=>T="str"
 | .int _=>T="int"
 | .ref p=>(T="list"/\∃ xs,aF K H p xs)\/(T="tuple"/\∃ o,K.lookup p=some o/\o.cls=.type "tuple"/\o.dict=none)\/
   (T="dict"/\((∃ kvs,H p=some (.dK kvs))\/∃ kvs,H p=some (.dT kvs)))\/(T="set"/\∃ S n,H p=some (.set S n))
 |_=>False
def uw {T:String}{x:V}{v:Value}(I:Inv X Y U H s)(r:RelV x v)(ty:E3 X.K T x H):
  s.TypeIs v T/\∀ a,v=.ref a->∃ ob,s.heap.get? a=some ob/\ob.dict=none:=by
 cases x with
 |str z=>
  obtain⟨t,rfl⟩:=r;cases(show T="str" from ty);exact⟨typeIs_str s z t,λ_ e=>nomatch e⟩
 |int i=>
  obtain⟨t,rfl⟩:=r;cases(show T="int" from ty);exact⟨typeIs_int s i t,λ_ e=>nomatch e⟩
 |ref p=>
  cases r;rcases ty with⟨rfl,xs,hq⟩|⟨rfl,o,hk,hc,hd⟩|⟨rfl,hk⟩|⟨rfl,S,n,hk⟩
  .obtain⟨its,_,pl,_⟩:=I.list hq;refine⟨pl.isList.typeIs,λa e=>?_⟩;cases e;obtain⟨o,n,e,c,hd,_⟩:=pl;exact⟨o,e,hd⟩
  .refine⟨⟨o,I.bp p o hk,hc⟩,λa e=>?_⟩;cases e;exact⟨o,I.bp _ o hk,hd⟩
  .have z:∃ o,s.heap.get? p=some o/\o.ExactDict:=by
    rcases hk with⟨kvs,hk⟩|⟨kvs,hk⟩
    .obtain⟨_,_,_,_,o,_,_,e,ex,_⟩:=I.hok p _ hk;exact⟨o,e,ex⟩
    .obtain⟨_,_,_,_,o,_,_,e,ex,_⟩:=I.hok p _ hk;exact⟨o,e,ex⟩
   obtain⟨o,e,ex⟩:=z;refine⟨⟨o,e,ex.1⟩,λa e2=>?_⟩;cases e2;exact⟨o,e,ex.2.1⟩
  .obtain⟨o,_,_,_,e,ex,_⟩:=I.hok p _ hk;refine⟨⟨o,e,ex.1⟩,λa e2=>?_⟩;cases e2;exact⟨o,e,ex.2.1⟩
 |_=>exact False.elim ty
abbrev E4 (K:W.Frag)(T:String)(r:V->List V->Hp->VK->Prop)(to:TE):TE:=λU H Q=>to U H λx H1=>E3 K T x H1/\r x [] H1 Q
abbrev FO (K:W.Frag)(T:String)(r:V->List V->Hp->VK->Prop)(to:TE)(t:TA):TE:=λU H Q=>to U H λx H1=>E3 K T x H1/\t U H1 λxs H2=>r x xs H2 Q
variable {o e:Expr}{es:List Expr}{to:TE}{t:TA}{name:Str}{apos cpos:Pos}{T id:String}{r:V->List V->Hp->VK->Prop}
def BC (pa:PlainAttrs T)(slot:Slot T name id)(hty:typeOf (.builtin id)=pure (.type "method_descriptor")) (hm:zQ X id r) (ho:PE X o to)
  (hbase:attributeBase o name X.env (eval o X.env)=eval o X.env:=by rfl) (hline:(apos.endLine ==cpos.line)=true:=by rfl):PE X (.Call (.Attribute o name apos) [] [] cpos) (E4 X.K T r to):=by
 intro Y s U H Q I h;refine wpAny_Call_method0_late hbase hline (aB (ho Y s U H _ I h) λv s1 ⟨x,H1,I1,r1,ty,q1⟩=>?_);obtain⟨h1,h2⟩:=uw I1 r1 ty;exact⟨T,id,pa,slot,hty,h1,h2,Calls.callWith_builtin rfl (PySem.evalArgs_none (hm Y s1 U H1 x [] v [] Q I1 r1 .nil q1))⟩
def vE (pa:PlainAttrs T)(slot:Slot T name id)(hty:typeOf (.builtin id)=pure (.type "method_descriptor")) (hm:zQ X id r) (ho:PE X o to) (ha:PA X (e::es) t)
  (hbase:attributeBase o name X.env (eval o X.env)=eval o X.env:=by rfl)
  (hfew:((backTo cpos (bm (e::es) X.env)).all (λx=>!x.1)&&(backToKw cpos (keywordEach [] X.env)).all (λx=>x.1.isSome)
   &&decide ((e::es).length+([]:List Keyword).length+(if([]:List Keyword).isEmpty then 0 else 1)<30))=true:=by rfl)
  (hline:(apos.endLine ==cpos.line)=true:=by rfl) (hs:bm (e::es) X.env=(false,eval e X.env)::bm es X.env:=by rfl) (hplain:(backTo cpos (bm es X.env)).any (·.1)=false:=by rfl):
  PE X (.Call (.Attribute o name apos) (e::es) [] cpos) (FO X.K T r to t):=by
 intro Y s U H Q I h;refine wpAny_Call_method_late hbase hfew hline rfl (aB (ho Y s U H _ I h) λv s1 ⟨x,H1,I1,r1,ty,q1⟩=>?_);obtain⟨h1,h2⟩:=uw I1 r1 ty;refine⟨T,id,pa,slot,hty,h1,h2,?_⟩;have hA:=ha cpos Y s1 U H1 _ I1 q1;rw[hs]at hA⊢;refine Calls.callWith_builtin (by show(false||(backTo cpos (bm es X.env)).any (·.1))=false;rw[hplain]<;>rfl) (Calls.evalArgs_plain ?_);exact aB hA λus s2 ⟨vs,H2,I2,r2,q2⟩=>hm Y s2 U H2 x vs v us Q I2 r1 r2 q2
/- xs.append(e),list.index on a module's tuple .. are zQ facts of 06m -/
end
abbrev Eh (X:Cx)(id:String)(r:V->List V->Hp->VK->Prop):Prop:=
 ∀ (Y:GD) (s:Shared) (U:St) (H:Hp) (x:V) (xs:List V) (v:Value) (us:List Value) (Q:VK),Inv X Y U H s->RelV x v->Vals xs us->r x xs H Q->
  wpAny (model X.prog X.w) X.A (call (.builtin id) (v::us)) (EP X Y U Q) X.xe s
def Vals.one:∀ {x:V}{us:List Value},Vals [x] us->∃ u,us=[u]/\RelV x u
 |_,_,.cons r .nil=>⟨_,rfl,r⟩
def Vals.zero:∀ {us:List Value},Vals [] us->us=[]
 |_,.nil=>rfl
def Vals.dropLast {xs:List V}(h:Vals xs us):Vals xs.dropLast us.dropLast:=by
 induction h with
 |nil=>exact .nil
 |cons r t ih=>
  cases t with
  |nil=>exact .nil
  |cons q t'=>exact .cons r ih
def Vals.reverse {xs:List V}(h:Vals xs us):Vals xs.reverse us.reverse:=by
 induction h with
 |nil=>exact .nil
 |cons r t ih=>rw[List.reverse_cons,List.reverse_cons];exact Vals.append ih (.cons r .nil)
def Vals.rep {xs:List V}(h:Vals xs us):∀ k:Nat,Vals (sn k xs).flatten (sn k us).flatten
 |0=>.nil
 |k+1=>by
  rw[replicate_succ,replicate_succ,flatten_cons,flatten_cons];exact Vals.append h (Vals.rep h k)
def foldl_rep (its:List Value):∀ (k:Nat) (acc:List Value),
  List.foldl (λx1 x2=>x1++x2) acc.toArray (sn k its.toArray)=(acc++(sn k its).flatten).toArray
 |0,acc=>by simp
 |k+1,acc=>by
  have e:acc.toArray++its.toArray=(acc++its).toArray:=by simp
  have e2:(acc++its)++(sn k its).flatten=acc++(sn (k+1) its).flatten:=by
   rw[replicate_succ,flatten_cons,le]
  rw[<-e2,<-foldl_rep its k (acc++its),<-e,replicate_succ,foldl_cons]
section
variable {X:Cx}{Y:GD}{U:St}{H:Hp}{s:Shared}{l b:Addr}{xs ys zs:List V}
def Inv.Am {its its':List Value}{f:Array Value->Array Value}{t':Nat}(I:Inv X Y U H s)(hH:H l=some (.lst xs))
  (e:s.heap.get? l=some { cls:=.type "list",data:=.seq its.toArray n }) (hf:f its.toArray=its'.toArray) (hv:Vals ys its') (hz:ys.length<=bn):
  Inv X Y U (upd H l (.lst ys)) { s with heap:=s.heap.update l (Obj.mapSeq f),toks:=t' }:=by
 have q:=PySem.IsL.update e f;rw[hf]at q;refine I.write (x:=l) (e:=l) (by rw[hH];exact trivial) (.inl rfl) (λb' u hb hu=>(Heap.get?_update_other s.heap (Obj.mapSeq f) (Ne.symm hb)).trans hu) ⟨_,q⟩ ?_;exact⟨hz,its',_,hv,q⟩
def Inv.CD {its:List Value}{t':Nat}(I:Inv X Y U H s)(hv:Vals ys its)(hz:ys.length<=bn):
  Inv X Y U (upd H s.heap.objs.size (.lst ys)) { s with heap:=s.heap.push { cls:=.type "list",data:=.seq its.toArray },toks:=t' }:=
 I.laid (λ_ _ q=>sw _ q) (pi _) ⟨hz,its,0,hv,tz _ rfl⟩
def Inv.fresh (I:Inv X Y U H s):H s.heap.objs.size=none:=I.hok.fresh (pi _)
def Inv.j0 (I:Inv X Y U H s)(hH:H l=some (.lst xs)):xs.length<=bn/\∃ (its:List Value) (n:Nat),Vals xs its/\xs.length=its.length/\s.heap.get? l=some { cls:=.type "list",data:=.seq its.toArray n }:=by
 obtain⟨z,its,n,r,e⟩:=I.hok l _ hH;exact⟨z,its,n,r,r.length,e⟩
def lS (h:n<=bn):Builtin.List.listTooLong n=false:=by
 unfold Builtin.List.listTooLong;exact decide_eq_false nofun
end
section
variable {X:Cx}
abbrev vY:V->List V->Hp->VK->Prop:=λx vs H Q=>∃ l xs y,x=.ref l/\vs=[y]/\H l=some (.lst xs)/\xs.length<bn/\Q .non (upd H l (.lst (xs++[y])))
def fW:Eh X "list.append" vY:=by
 intro Y s U H x vs v us Q I rx rv h;obtain⟨l,xs,y,rfl,rfl,hH,hz,q⟩:=h;cases rx;obtain⟨u,rfl,ru⟩:=rv.one;obtain⟨z,its,n,r,hl,e⟩:=I.j0 hH;refine call_meets F.slot_list_append ⟨_,e,rfl⟩ F.entry_list_append (F.args_list_append_2 _ _) (PySem.list_append l its.toArray n u (by rw[ge];omega)) ⟨e,?_⟩;refine⟨.non,_,I.Am (its':=its++[u]) hH e (by simp) (r.append (.cons ru .nil)) ?_,rfl,q⟩;rw[ci,f8]
 omega
abbrev wM:V->List V->Hp->VK->Prop:=λx vs H Q=>∃ l b xs zs,x=.ref l/\vs=[.ref b]/\H l=some (.lst xs)/\H b=some (.lst zs)/\xs.length+zs.length<=bn/\Q .non (upd H l (.lst (xs++zs)))
def rm:Eh X "list.extend" wM:=by
 intro Y s U H x vs v us Q I rx rv h;obtain⟨l,b,xs,zs,rfl,rfl,hH,hB,hz,q⟩:=h;cases rx;obtain⟨u,rfl,ru⟩:=rv.one;cases ru;obtain⟨z,its,n,r,hl,e⟩:=I.j0 hH;obtain⟨z2,iJ,n2,r2,hl2,e2⟩:=I.j0 hB;have hsz:its.toArray.size+iJ.toArray.size<=bn:=by rw[ge,ge];omega
 have hlong:¬ (!its.toArray.isEmpty&&Builtin.List.listTooLong (its.toArray.size+iJ.toArray.size))=true:=by
  rw[lS hsz,Bool.and_false];exact Bool.false_ne_true
 refine call_meets F.slot_list_extend ⟨_,e,rfl⟩ F.entry_list_extend (F.args_list_extend_2 _ _)
  (AutoSeq1.list_extend_list_list_0 l its.toArray n b iJ.toArray n2 hlong (by rw[ge];omega) nofun) ⟨e,e2,?_⟩
 refine⟨.non,_,I.Am (its':=its++iJ) hH e (by simp) (r.append r2) ?_,rfl,q⟩;rw[ci]
 omega
abbrev BW:V->List V->Hp->VK->Prop:=λx vs H Q=>∃ l xs,x=.ref l/\vs=[]/\H l=some (.lst xs)/\Q .non (upd H l (.lst []))
def u1:Eh X "list.clear" BW:=by
 intro Y s U H x vs v us Q I rx rv h;obtain⟨l,xs,rfl,rfl,hH,q⟩:=h;cases rx;have hus:=rv.zero;subst hus;obtain⟨z,its,n,r,hl,e⟩:=I.j0 hH;refine call_meets F.slot_list_clear ⟨_,e,rfl⟩ F.entry_list_clear (F.args_list_clear_1 _) (AutoSeq1.list_clear_list_0 l its.toArray n (by rw[ge];omega)) ⟨e,?_⟩;exact⟨.non,_,I.Am (its':=[]) (ys:=[]) hH e rfl .nil (Nat.zero_le _),rfl,q⟩
abbrev D7:R2:=λx y H Q=>∃ l b xs zs,x=.ref l/\y=.ref b/\H l=some (.lst xs)/\H b=some (.lst zs)/\xs.length+zs.length<=bn/\∀ p,H p=none->Q (.ref p) (upd H p (.lst (xs++zs)))
def A0:bT X (binaryOp .Add) D7:=by
 intro Y s U H x y v u Q I rx ry h;obtain⟨l,b,xs,zs,rfl,rfl,hH,hB,hz,q⟩:=h;cases rx;cases ry;obtain⟨z,its,n,r,hl,e⟩:=I.j0 hH;obtain⟨z2,iJ,n2,r2,hl2,e2⟩:=I.j0 hB;refine PySem.P.add_list e e2 ?_ (by rw[ge,ge];omega);have ea:its.toArray++iJ.toArray=(its++iJ).toArray:=by simp
 rw[ea];exact⟨.ref _,_,I.CD (t':=s.toks) (r.append r2) (by rw[ci];omega),rfl,q _ I.fresh⟩
abbrev E7:R2:=λx y H Q=>∃ l k xs,x=.ref l/\y=.int k/\H l=some (.lst xs)/\ -(2 ^ 63)<=k/\k<2 ^ 63/\xs.length*k.toNat<=bn/\
 ∀ p,H p=none->Q (.ref p) (upd H p (.lst (sn k.toNat xs).flatten))
def len_rep (xs:List α)(k:Nat):(sn k xs).flatten.length=k*xs.length:=by
 induction k with
 |zero=>simp
 |succ k ih=>rw[replicate_succ,flatten_cons,ci,ih,Nat.succ_mul,Nat.add_comm]
def A3:bT X (binaryOp .Mult) E7:=by
 intro Y s U H x y v u Q I rx ry h;obtain⟨l,k,xs,rfl,rfl,hH,h1,h2,hz,q⟩:=h;cases rx;obtain⟨t,rfl⟩:=ry;obtain⟨z,its,n,r,hl,e⟩:=I.j0 hH;have hlen:its.toArray.size*k.toNat<=bn:=by rw[ge,<-hl];exact hz
 have hcap:¬ its.toArray.size*k.toNat>(2 ^ 63-1) / 8:=by
  have:(bn:Nat)<=(2 ^ 63-1) / 8:=by decide
  omega
 have hfit:¬ (!Builtin.List.listFitsIndex k)=true:=by
  rw[fitsIndex_both h1 h2];exact Bool.false_ne_true
 have hlong:¬ Builtin.List.listTooLong (its.toArray.size*k.toNat)=true:=by
  rw[lS hlen];exact Bool.false_ne_true
 have hnew:List.foldl (λx1 x2=>x1++x2) #[] (sn (if its.toArray.isEmpty=true then 0 else k.toNat) its.toArray)=(sn k.toNat its).flatten.toArray:=by
  have f0:∀ m:Nat,List.foldl (λx1 x2=>x1++x2) #[] (sn m its.toArray)=(sn m its).flatten.toArray:=λm=>by
   have:=foldl_rep its m [];rw[nil_append]at this;exact this
  rw[f0];cases its with
  |nil=>simp
  |cons a r'=>rw[if_neg (by simp)]
 refine wpAny_binaryOp_repeat_ref (T:="list") (U:="int") (by decide) ⟨_,e,rfl⟩ (λs'=>typeIs_int s' k t) noFill_list_mul F.fills_int_mul F.slot_int_rmul repeat_list F.slot_int_index.lookup
  (call_meets F.slot_int_rmul (typeIs_int s k t) F.entry_int_rmul (F.args_int_rmul_2 _ _) (int___rmul___int_list k t l its.toArray n)
   ⟨e,rfl,⟨_,e,rfl⟩,call_meets F.slot_list_mul ⟨_,e,rfl⟩ F.entry_list_mul (F.args_list_mul_2 _ _) (AutoListH.list___mul___list_int_3 l its.toArray n k t hfit hcap hlong) ⟨e,?_⟩⟩)
 rw[hnew];exact⟨.ref _,_,I.CD (t':=s.toks) (r.rep k.toNat) (by rw[len_rep,Nat.mul_comm];exact hz),rfl,q _ I.fresh⟩
end
section
variable {prog:Program}{w:World}{A:Around}{E:GC}{s:Shared}
set_option maxRecDepth 100000 in
end
section
variable {X:Cx}
end
variable {o:Option V}
section
variable {κ:Type} [DecidableEq κ]
abbrev a8 (kvs:List (κ×V))(k:κ):Option V:=(kvs.find? λkv=>decide (kv.1=k)).map (·.2)
abbrev putK (kvs:List (κ×V))(k:κ)(v:V):List (κ×V):=
 if(kvs.any λkv=>decide (kv.1=k))=true then kvs.map (λkv=>if kv.1=k then(kv.1,v) else kv) else kvs++[(k,v)]
def cu {p:κ×V}{r:List (κ×V)}{k:κ}(e:p.1=k):a8 (p::r) k=some p.2:=by simp[a8,find?_cons,e]
def cV {p:κ×V}{r:List (κ×V)}{k:κ}(e:¬ p.1=k):a8 (p::r) k=a8 r k:=by simp[a8,find?_cons,e]
def fw (k:κ):∀ kvs:List (κ×V),(kvs.any λkv=>decide (kv.1=k))=(a8 kvs k).isSome
 | []=>rfl
 |p::r=>by
  rw[any_cons]
  by_cases e:p.1=k
  .simp only[cu e,decide_eq_true e,Bool.true_or,Option.isSome_some]
  .rw[cV e,decide_eq_false e,Bool.false_or];exact fw k r
def gC (kvs:List (κ×V))(k:κ)(v:V):(putK kvs k v).length<=kvs.length+1:=by
 unfold putK
 split
 .rw[ce];omega
 .rw[ci,length_cons,List.length_nil];omega
def cx.cy {u:Option Value}(r:cx o u):o.isSome=u.isSome:=by
 cases o with
 |none=>cases u with
  |none=>rfl
  |some _=>exact(show False from r).elim
 |some _=>cases u with
  |none=>exact(show False from r).elim
  |some _=>rfl
def KV.val {kvs:List (κ×V)}{vs:List (κ×Value)}(r:KV kvs vs)(k:κ):cx (a8 kvs k) (valueAt vs k):=by
 unfold KV at r
 induction r with
 |nil=>exact True.intro
 | @cons p q ps qs h t ih=>
  obtain⟨h1,h2⟩:=h
  by_cases e:p.1=k
  .have e':q.1=k:=h1.symm.trans e;have b:valueAt (q::qs) k=some q.2:=by simp[valueAt,find?_cons,e']
   rw[cu e,b];exact h2
  .have e':¬ q.1=k:=λz=>e (h1.trans z)
   have b:valueAt (q::qs) k=valueAt qs k:=by simp[valueAt,find?_cons,e']
   rw[cV e,b];exact ih
def KV.any {kvs:List (κ×V)}{vs:List (κ×Value)}(r:KV kvs vs)(k:κ):(kvs.any λkv=>decide (kv.1=k))=vs.any λkv=>decide (kv.1=k):=by
 unfold KV at r
 induction r with
 |nil=>rfl
 |cons h t ih=>rw[any_cons,any_cons,ih,h.1]
def KV.Bw {kvs:List (κ×V)}{vs:List (κ×Value)}(r:KV kvs vs)(k:κ)(ry:RelV y u):
  KV (kvs.map λkv=>if kv.1=k then(kv.1,y) else kv) (vs.map λkv=>if kv.1=k then(kv.1,u) else kv):=by
 unfold KV at r⊢
 induction r with
 |nil=>exact .nil
 | @cons p q ps qs h t ih=>
  rw[map_cons,map_cons];refine .cons ?_ ih;obtain⟨h1,h2⟩:=h
  by_cases e:p.1=k
  .rw[if_pos e,if_pos (h1.symm.trans e)];exact⟨h1,ry⟩
  .rw[if_neg e,if_neg (λz=>e (h1.trans z))];exact⟨h1,h2⟩
def KV.put {kvs:List (κ×V)}{vs:List (κ×Value)}(r:KV kvs vs)(k:κ)(ry:RelV y u):KV (putK kvs k y) (stored vs k u):=by
 unfold putK stored;rw[r.any k]
 by_cases e:(vs.any λkv=>decide (kv.1=k))=true
 .rw[if_pos e,if_pos e];exact r.Bw k ry
 .rw[if_neg e,if_neg e];exact Paired.snoc r ⟨rfl,ry⟩
def KV.length {kvs:List (κ×V)}{vs:List (κ×Value)}(r:KV kvs vs):kvs.length=vs.length:=Paired.length r
end
variable {P:Program}{w:World}
def mh {k:Key}(r:RelV (kV k) u):(aI P w).is k u=true:=by
 cases k with
 |inl i=>obtain⟨t,e⟩:=(show ∃ t,u=Value.int i t from r);subst e;exact lQ P w i t
 |inr x=>obtain⟨t,e⟩:=(show ∃ t,u=Value.str x t from r);subst e;exact mJ P w x t
def jj {P:Program}{w:World}:∀ {ks:List Key}{us:List Value},Vals (ks.map kV) us->ItemsAre (aI P w) ks us
 | [],_,r=>by rw[List.map_nil]at r;cases r;exact .nil
 |k::ks,_,r=>by
  rw[map_cons]at r;cases r with
  |cons h t=>exact .cons (mh h) (jj t)
@[reducible]def KT (H:Hp):List (List Key×V)->List (List Key×Addr×Value)->Prop:=Paired λp q=>p.1=q.1/\H q.2.1=some (.tup (p.1.map kV))/\RelV p.2 q.2.2
variable {xs:List (List Key×Addr×Value)}{kvs:List (List Key×V)}
def KT.val (r:KT H kvs xs)(k:List Key):cx (a8 kvs k) ((atKey xs k).map (·.2)):=by
 induction r with
 |nil=>exact True.intro
 | @cons p q ps qs h t ih=>
  obtain⟨h1,_,h2⟩:=h
  by_cases e:p.1=k
  .have e':q.1=k:=h1.symm.trans e;have b:atKey (q::qs) k=some q.2:=by simp[atKey,find?_cons,e']
   rw[cu e,b];exact h2
  .have e':¬ q.1=k:=λz=>e (h1.trans z)
   have b:atKey (q::qs) k=atKey qs k:=by simp[atKey,find?_cons,e']
   rw[cV e,b];exact ih
def KT.Bw (r:KT H kvs xs)(k:List Key)(ry:RelV y u):
  KT H (kvs.map λkv=>if kv.1=k then(kv.1,y) else kv) (xs.map (putAt k u)):=by
 induction r with
 |nil=>exact .nil
 | @cons p q ps qs h t ih=>
  rw[map_cons,map_cons];refine .cons ?_ ih;obtain⟨h1,h2,h3⟩:=h;unfold putAt
  by_cases e:p.1=k
  .rw[if_pos e,if_pos (h1.symm.trans e)];exact⟨h1,h2,ry⟩
  .rw[if_neg e,if_neg (λz=>e (h1.trans z))];exact⟨h1,h2,h3⟩
def KT.put (r:KT H kvs xs)(k:List Key){b:Addr}(hb:H b=some (.tup (k.map kV)))(ry:RelV y u):
  KT H (putK kvs k y) (storedH xs k b u):=by
 have e:(kvs.any λkv=>decide (kv.1=k))=(atKey xs k).isSome:=by
  rw[fw,(r.val k).cy,Option.isSome_map]
 unfold putK storedH;rw[e]
 by_cases q:(atKey xs k).isSome=true
 .rw[if_pos q,if_pos q];exact r.Bw k ry
 .rw[if_neg q,if_neg q];exact Paired.snoc r ⟨rfl,hb,ry⟩
variable {H':Hp}
def KT.keeps (r:KT H kvs xs)(ht:∀ b ys,H b=some (.tup ys)->H' b=some (.tup ys)):KT H' kvs xs:=
 Paired.BU r λ_ _ z=>⟨z.1,ht _ _ z.2.1,z.2.2⟩
section
variable {P:Program}{w:World}{H:Hp}{h:Heap}{a:Addr}
def ze {u:HO}(ok:dJ P w H h)(e:Rd H a u):aq P w H h a u:=e.ok ok
def gd {kvs:List (Key×V)}(ok:dJ P w H h)(e:Rd H a (.dK kvs)):kvs.length<=bn/\(a ==sysModules)=false/\∃ vs,KV kvs vs/\h.DictOf (aI P w) a vs:=
 show aq P w H h a (.dK kvs) from ze ok e
def CM {kvs:List (Key×V)}(ok:dJ P w H h)(e:H a=some (.dK kvs)):kvs.length<=bn/\(a ==sysModules)=false/\∃ vs,KV kvs vs/\h.DictOf (aI P w) a vs:=gd ok (.inl e)
def iL {ks:List Key}(ok:dJ P w H h)(e:H a=some (.tup (ks.map kV))):(tupleKind (aI P w)).is h ks a:=by
 obtain⟨_,its,r,o,h1,h2,n,h3⟩:=(show aq P w H h a (.tup (ks.map kV)) from ok a _ e);exact⟨o,its.toArray,n,h1,h2,h3,by simpa using jj r⟩
def lU (ok:dJ P w H h)(e:Rd H a (.dT kvs)):kvs.length<=bn/\(a ==sysModules)=false/\
  ∃ xs,KT H kvs xs/\h.DictOfH (tupleKind (aI P w)) a xs:=by
 obtain⟨z,y,xs,r,o,es,ep,h1,h2,h3,h4,h5⟩:=(show aq P w H h a (.dT kvs) from ze ok e);refine⟨z,y,xs,r,o,es,ep,h1,h2,h3,h4,λx hx=>?_,h5⟩;have all:∀ {l:List (List Key×V)}{m:List (List Key×Addr×Value)},KT H l m->∀ x ∈ m,(tupleKind (aI P w)).is h x.1 x.2.1:=by
  intro l m q
  induction q with
  |nil=>intro x hx;exact nomatch hx
  | @cons p q ps qs hq t ih=>
   intro x hx;rcases lv.mp hx with e|hx
   .subst e;exact iL ok (by rw[<-hq.1];exact hq.2.1)
   .exact ih x hx
 exact all r x hx
def Df (ok:dJ P w H h)(e:H a=some (.dT kvs)):kvs.length<=bn/\(a ==sysModules)=false/\
  ∃ xs,KT H kvs xs/\h.DictOfH (tupleKind (aI P w)) a xs:=lU ok (.inl e)
end
abbrev m8 (H:Hp)(a:Addr)(y:V)(r:Option V):Prop:=
 (∃ kvs k,Rd H a (.dK kvs)/\y=kV k/\r=a8 kvs k)\/∃ kvs k b,Rd H a (.dT kvs)/\y=.ref b/\H b=some (.tup (k.map kV))/\r=a8 kvs k
abbrev C7 (H:Hp)(a:Addr)(y v:V)(H':Hp):Prop:=
 (∃ kvs k,H a=some (.dK kvs)/\y=kV k/\kvs.length<bn/\H'=upd H a (.dK (putK kvs k v)))\/
 ∃ kvs k b,H a=some (.dT kvs)/\y=.ref b/\H b=some (.tup (k.map kV))/\kvs.length<bn/\H'=upd H a (.dT (putK kvs k v))
variable {Q:GC}
section
variable {X:Cx}{Y:GD}{U:St}{H:Hp}{s:Shared}{a:Addr}{y v:V}{u r:Value}{o:Option V}{A:Around}{E:GC}
def Inv.big (I:Inv X Y U H s):sysModules<s.heap.objs.size:=by
 have h:mainGlobals<s.heap.objs.size:=(I.mod.glob.keeps I.bk).lt;exact Nat.lt_trans (by decide) h
def rG (hu:A.units+1<cLine)(I:Inv X Y U H s)(g:m8 H a y (some v))(ry:RelV y u)(h:∀ w' s',Inv X Y U H s'->RelV v w'->Q w' s'):
  wpAny (model X.prog X.w) A (getItem (.ref a) u) Q E s:=by
 rcases g with⟨kvs,k,e,ey,l⟩|⟨kvs,k,b,e,ey,eb,l⟩
 .subst ey;obtain⟨z,hd,vs,rel,dd⟩:=gd I.hok e;obtain⟨w',hw,rw'⟩:=cx.some_of (v:=v) (o:=valueAt vs k) (by rw[l];exact rel.val k);exact wpAny_getItem_of (mh ry) dd.mapOf hw (h w' _ (I.tok _) rw')
 .subst ey;cases(show u=Value.ref b from ry);obtain⟨z,hd,xs,rel,dd⟩:=lU I.hok e;obtain⟨w',hw,rw'⟩:=cx.some_of (v:=v) (o:=(atKey xs k).map (·.2)) (by rw[l];exact rel.val k);obtain⟨p,hp,hp2⟩:=mo.mp hw;refine wpAny_getItem_heap (tupleKind_room_in1 hu) (iL I.hok eb) dd hp ?_;rw[hp2];exact h w' _ (I.tok _) rw'
def E6 (hu:A.units+1<cLine)(I:Inv X Y U H s)(g:m8 H a y o)(ry:RelV y u)(h:∀ s',Inv X Y U H s'->Q (.bool o.isSome) s'):
  wpAny (model X.prog X.w) A (compareOp .In u (.ref a)) Q E s:=by
 rcases g with⟨kvs,k,e,ey,l⟩|⟨kvs,k,b,e,ey,eb,l⟩
 .subst ey;obtain⟨z,hd,vs,rel,dd⟩:=gd I.hok e;refine wpAny_in_of (mh ry) hd dd.mapOf ?_;rw[<-(rel.val k).cy,<-l];exact h _ (I.tok _)
 .subst ey;cases(show u=Value.ref b from ry);obtain⟨z,hd,xs,rel,dd⟩:=lU I.hok e;refine wpAny_in_heap (tupleKind_room_in1 hu) (iL I.hok eb) hd dd ?_;have q:=(rel.val k).cy;rw[Option.isSome_map]at q;rw[<-q,<-l];exact h _ (I.tok _)
def wU (hu:A.units+1<cLine)(I:Inv X Y U H s)(g:m8 H a y o)(ry:RelV y u)(h:∀ s',Inv X Y U H s'->Q (.bool (!o.isSome)) s'):
  wpAny (model X.prog X.w) A (compareOp .NotIn u (.ref a)) Q E s:=by
 rcases g with⟨kvs,k,e,ey,l⟩|⟨kvs,k,b,e,ey,eb,l⟩
 .subst ey;obtain⟨z,hd,vs,rel,dd⟩:=gd I.hok e;refine wpAny_notIn_of (mh ry) hd dd.mapOf ?_;rw[<-(rel.val k).cy,<-l];exact h _ (I.tok _)
 .subst ey;cases(show u=Value.ref b from ry);obtain⟨z,hd,xs,rel,dd⟩:=lU I.hok e;refine wpAny_notIn_heap (tupleKind_room_in1 hu) (iL I.hok eb) hd dd ?_;have q:=(rel.val k).cy;rw[Option.isSome_map]at q;rw[<-q,<-l];exact h _ (I.tok _)
def pz {h':Heap}{t':Nat}{ob:HO}(I:Inv X Y U H s)(mu:Ca (H a))(hs:Heap.SameBut a s.heap h')(he:∃ q,h'.get? a=some q) (new:aq X.prog X.w (upd H a ob) h' a ob):
  Inv X Y U (upd H a ob) { s with heap:=h',toks:=t' }:=
 I.write (x:=a) (e:=a) mu (.inl rfl) (λb q hb z=>(hs.2 b hb).trans z) he new
def BH {h':Heap}{kvs:List (Key×V)}{vs:List (Key×Value)}(z:kvs.length<=bn)(hd:(a ==sysModules)=false)(rel:KV kvs vs)(dd:h'.DictOf (aI P w) a vs):
  aq P w H' h' a (.dK kvs):=⟨z,hd,vs,rel,dd⟩
def qR {Q:GB}(hu:A.units+1<cLine)(I:Inv X Y U H s)(g:C7 H a y v H')(ry:RelV y u)(rv:RelV v r)(h:∀ s',Inv X Y U H' s'->Q () s'):
  wpAny (model X.prog X.w) A (setItem (.ref a) u r) Q E s:=by
 rcases g with⟨kvs,k,e,ey,l,eH⟩|⟨kvs,k,b,e,ey,eb,l,eH⟩
 .subst ey eH;obtain⟨z,hd,vs,rel,dd⟩:=CM I.hok e;have hz:vs.length<=bn:=by rw[<-rel.length];exact z
  have hl:(putK kvs k v).length<=bn:=by have:=gC kvs k v;omega
  refine wpAny_setItem_pairs (hsz:=hz) (mh ry) dd λh' dd' hs=>h _ ?_
  have he:∃ q,h'.get? a=some q:=let⟨q,_,_,hq,_⟩:=dd';⟨q,hq⟩;exact pz I (by rw[e];exact True.intro) hs he (BH hl hd (rel.put k rv) dd')
 .subst ey eH;cases(show u=Value.ref b from ry);obtain⟨z,hd,xs,rel,dd⟩:=Df I.hok e;have hz:xs.length<=bn:=by rw[<-Paired.length rel];exact z
  have hl:(putK kvs k v).length<=bn:=by have:=gC kvs k v;omega
  refine wpAny_setItem_heap (hsz:=hz) (tupleKind_room_in1 hu) (iL I.hok eb) dd λh' dd' hs=>h _ ?_
  obtain⟨q,es,ep,hq,h2,h3,h4,_,h5⟩:=dd';refine pz I (by rw[e];exact True.intro) hs ⟨q,hq⟩ ⟨hl,hd,_,(rel.put k eb rv).keeps λc ys ec=>?_,q,es,ep,hq,h2,h3,h4,h5⟩;rw[ah (DA ec e (λz=>nomatch z))];exact ec
end
section
variable {X:Cx}{Y:GD}{U:St}{H:Hp}{s:Shared}{a:Addr}{kvs:List (Key×V)}{k:Key}{u:Value}{A:Around}{E:GC}
end
def k9 {X:Cx}{a:Addr}(I:Inv X Y U H s)(g:m8 H a y o):s.TypeIs (.ref a) "dict":=by
 rcases g with⟨kvs,k,e,_,_⟩|⟨kvs,k,b,e,_,_,_⟩
 .obtain⟨_,_,vs,_,dd⟩:=gd I.hok e;exact dd.typeIs
 .obtain⟨_,_,xs,_,dd⟩:=lU I.hok e;exact dd.typeIs
section
variable {X:Cx}{o i e value:Expr}{pos pos' tpos:Pos}{td ty tv:TE}
end
def vM (h:Heap)(hb:sysModules<h.objs.size):aq P w H (h.push { cls:=.type "dict",data:=.dict #[] }) h.objs.size (.dK []):=
 ⟨Nat.zero_le _,beq_eq_false_iff_ne.mpr (Ne.symm (pc hb)),[],.nil,Heap.DictOf.new h⟩
abbrev BQ:TE:=λ_ H Q=>∀ p,H p=none->Q (.ref p) (upd H p (.dK []))
section
variable {X:Cx}{pos:Pos}
def sN:PE X (.Dict [] [] pos) BQ:=λY s U H Q I h=>
 wpAny_Dict_empty ⟨.ref s.heap.objs.size,_,I.laid (a:=s.heap.objs.size) (o:=.dK []) (t':=s.toks) (λ_ _ q=>sw _ q) (pi _) (vM s.heap I.big),rfl,h _ (I.hok.fresh (pi _))⟩
end
section
variable {X:Cx}{Y:GD}{U:St}{H:Hp}{s:Shared}{a:Addr}{y d:V}{u r:Value}{o:Option V}{A:Around}{E:GC}
end
section
variable {X:Cx}{o e f:Expr}{apos cpos:Pos}{td ty tx:TE}
end
section
variable {X:Cx}{Y:GD}{U:St}{H:Hp}{s:Shared}{a:Addr}{kvs:List (Key×V)}{A:Around}{E:GC}
end
section
variable {X:Cx}{Y:GD}{U:St}{H:Hp}{s:Shared}{a:Addr}{y:V}{u:Value}{A:Around}{E:GC}
end
end L2
namespace Att
open PySem PySem.W PySem.Calls PyProof.Rows
variable {P:Params}
def gQ {h:Heap}:∀ (ns:List Int) (vs:List Value),WellAll P h vs (ns.map WData.int)->IntsAre vs ns:=by
 intro ns
 induction ns with
 |nil=>
  intro vs w;rw[List.map_nil]at w;cases w;exact .nil
 |cons n ns ih=>
  intro vs w;rw[map_cons]at w;cases w with
  |cons a b=>
   cases a;exact .cons _ _ (ih _ b)
variable {l:OpenLaw}
def qL {n:Nat}(hn:l.most=some n){h:Heap}{args:List WData}{vals:List Value}
  (hpre:l.row.toRowW.claim.pre args=true) (hwl:WellAll P h vals args):
  ∃ a vs ns,vals=[Value.ref a]/\args=[WData.list (ns.map WData.int)]/\h.get? a=some { cls:=.type "list",data:=.seq vs.toArray }/\IntsAre vs ns/\ns.length<=n:=by
 have hsh:WShape.hasAll [] args [.list .int]=true:=(pre_splitW hpre).1;have hc:l.pre.holds [] { args:=args }=true:=(pre_splitW hpre).2;obtain⟨d,r,rfl,h1,h2⟩:=hasAllW_cons hsh;obtain rfl:=hasAllW_nil h2;obtain⟨xs,rfl,h3⟩:=hasW_list h1;obtain⟨ns,rfl⟩:=items_int h3;have hlen:ns.length<=n:=by
  unfold OpenLaw.pre at hc;have h4:(WTm.not (.lt (.lit (.int (n:Int))) (.len (.arg 0)))).holds [] { args:=[.list (ns.map .int)] }=true:=by
   have h4:=(holds_andW hc).1;rw[hn]at h4;exact h4
  have h5:=condW_of h4 (w_not (w_lt w_lit (w_len_list (w_arg rfl))));rw[ce]at h5;refine Nat.le_of_not_lt λq=>?_
  have q':(n:Int)<((ns.length:Nat):Int):=by omega
  first
   |(rw[decide_eq_true q']at h5;exact absurd h5 (by decide))
   |(simp at h5;omega)
 cases hwl with
 |cons w1 w2=>
  cases w2;cases w1 with
  |list ho hall=>exact⟨_,_,ns,rfl,rfl,ho,gQ ns _ hall,hlen⟩
def rL (l:OpenLaw)(args:List WData):l.row.toRowW.claim.post args (.bool true) args=true:=
 postW_of (r:=l.row.toRowW) (X:=(true ==true))
  (show WShape.has [] (.bool true) .bool=true by first|rfl|decide|simp[WShape.has,WShape.arms,WShape.armsAll])
  (show(WTm.eq .res (.lit (.bool true))).value [] { args:=args,res:=some (.bool true),after:=args }=some (.bool (true ==true)) from w_eq_bool (w_res rfl) w_lit) rfl
def lZ {n:Nat}{q:Program}{loose:List Str}{XP:(Str->Option Value)->Heap->Prop}{YP:World->Heap->Prop}{d:DefRec}
  (hn:l.most=some n) (hdf:d.params.defaults=[])
  (call:∀ (w:World) (s₀ s₁:Shared) (mg mb:GF) (fa:Addr) (o:Obj) (pm cd doc:Value) (a:Addr) (vs:List Value) (ns:List Int),
   Ground q loose [] XP w s₀ mg mb s₁.heap->YP w s₁.heap->
   s₁.heap.get? fa=some o->o.data=.func (docDef d.name d.params d.body d.scope pm cd doc)->s₁.heap.CodeRec cd d.name->mg d.name=some (.ref fa)->
   s₁.heap.get? a=some { cls:=.type "list",data:=.seq vs.toArray }->IntsAre vs ns->ns.length<=n->s₁.gens=#[]->
   codeAny (model l.prog w) callerA (.call (.ref fa) ⟨[.ref a],[]⟩) (λr s'=>r=.ok (.ret (.bool true))/\OldK s₁.heap s'.heap/\s'.os=s₁.os/\AllBare s'.gens) s₁):
  WalkO q loose XP YP l.row.toRowW d [] (λf vs=>PySem.call f vs):=by
 intro w s₀ s₁ mg mb G Y fa o pm cd doc dV kV ho hd hcd hD hmg hg args vals as hpre hlay hrd hwl hlo;obtain rfl:dV=.none:=Dflts.none hD hdf;obtain rfl:kV=.none:=Dflts.noKw hD;obtain⟨a,vs,ns,rfl,rfl,hobj,hints,hlen⟩:=qL hn hpre hwl;refine enter_call (codeAny_mono (call w s₀ s₁ mg mb fa o pm cd doc a vs ns G Y ho (fd_plain hd) hcd hmg hobj hints hlen hg) λr s' hq=>?_);obtain⟨rfl,h2,h3,h4⟩:=hq;exact⟨.inl ⟨.bool true,.bool true,[],rfl,λ_=>rfl,.bool true,rL l _,λ_=>⟨List.Pairwise.nil,λ_ hm=>(nomatch hm)⟩⟩,h2,h3,h4⟩
section
variable {prog:Program}{w:World}{A:Around}{E:GC}{s:Shared}{K:Frag}
end
end Att
namespace L2
open PySem PySem.Spec PyProof.Rows
def jk:∀ {vs:List Value}{ns:List Int},IntsAre vs ns->Vals (ns.map V.int) vs
 |_,_,.nil=>.nil
 |_,_,.cons n t h=>.cons ⟨t,rfl⟩ (jk h)
abbrev Af (H:Hp):Prop:=∀ b,H b=none\/∃ o xs,H b=some (.aH o (.lst xs))
def sh {P:Program}{w:World}{K:W.Frag}{mg mb:GF}{CX:pJ}{k:Nat}{fa a:Addr}{fd:FuncData}{x:Str}{sp:Sp}{s₁:Shared}{vs:List Value}{ns:List Int}
  (KX:K.In s₁.heap) (hns:s₁.heap.Ns mainGlobals mg) (hb:s₁.heap.Ns builtinsNs mb) (hbb:∀ x:Str,x≠"__name__"->mb x=bootBuiltins x) (hlim:s₁.heap.NoLimit) (hg:s₁.gens=#[])
  (ha:s₁.heap.get? a=some { cls:=.type "list",data:=.seq vs.toArray }) (hi:IntsAre vs ns) (hl:ns.length<=bn) (hr:bh k callerA)
  (F:∀ base:Heap,K.In base->base.Ns mainGlobals mg->cC P w K mg base CX k fa fd [x] sp) (hbind:∀ (s:Shared) (u:Value),BindsTo s fd ⟨[u],[]⟩ [(x,u)])
  (hsp:∀ H:Hp,Af H->aF K H a (ns.map V.int)->sp [.ref a] H (λv _=>v=.bl true) λ_ _=>False)
  (hCX:∀ H e s',CX [] H s₁ (λ_ _=>False) e s'->False):
  codeAny (model P w) callerA (.call (.ref fa) ⟨[.ref a],[]⟩) (λr s'=>r=.ok (.ret (.bool true))/\OldK s₁.heap s'.heap/\s'.os=s₁.os/\AllBare s'.gens) s₁:=by
 have rv:=jk hi;have lenV:=hi.length;have core:∀ H:Hp,Af H->aF K H a (ns.map V.int)->dJ P w H s₁.heap->(∀ b,H b≠none->b=a)->(H a≠none->K.lookup a=none)->
   codeAny (model P w) callerA (.call (.ref fa) ⟨[.ref a],[]⟩) (λr s'=>r=.ok (.ret (.bool true))/\OldK s₁.heap s'.heap/\s'.os=s₁.os/\AllBare s'.gens) s₁:=by
  intro H hO hS hok hA hK;have base_of:∀ {b:Addr}{o:Obj},s₁.heap.get? b=some o->H b=none->(kc s₁.heap H).get? b=some o:=λe n=>tH e n
  have noA:∀ {b:Addr}{o:Obj}{es:Array DictEntry}{ep:Nat},s₁.heap.get? b=some o->o.data=.dict es ep->H b=none:=λ{b o es ep} e d=>by
   cases q:H b with
   |none=>rfl
   |some u=>
    have e':b=a:=hA b (by rw[q];simp);subst e';rw[ha]at e;cases e;have d':Data.seq vs.toArray _=Data.dict es ep:=d;cases d'
  have nsK:∀ {b:Addr}{m:GF},s₁.heap.Ns b m->(kc s₁.heap H).Ns b m:=λ{b m} ⟨o,es,ep,e,d,r⟩=>⟨o,es,ep,base_of e (noA e d),d,r⟩
  have hKb:K.In (kc s₁.heap H):=λb o e=>base_of (KX b o e) (by
   cases q:H b with
   |none=>rfl
   |some u=>
    have e':b=a:=hA b (by rw[q];simp);subst e';rw[hK (by rw[q];simp)]at e;cases e)
  have hM:Mod K mg (kc s₁.heap H):=⟨hKb,nsK hns,⟨mb,nsK hb,hbb⟩,let⟨mc,h1,h2⟩:=hlim;⟨mc,nsK h1,h2⟩⟩;have e0:nK P w K mg (kc s₁.heap H) callerA [] s₁ H:=⟨rfl,hM,λb o e=>wo e,Nat.le_of_eq (qz _ _),trivial,λb hb=>absurd (show b ∈ ([]:List Addr) from hb) (by simp),hok,.of_eq hg⟩;refine codeAny_mono ((F _ hKb (nsK hns)).run callerA [] s₁ H ⟨[.ref a],[]⟩ [.ref a] [.ref a] _ _ hr e0 (hbind s₁ (.ref a)) (.cons rfl .nil) (hsp H hO hS)) λr s' h=>?_
  cases r with
  |error e=>exact(hCX H e s' h).elim
  |ok fl=>
   cases fl with
   |next=>exact False.elim h
   |brk=>exact False.elim h
   |cont=>exact False.elim h
   |ret u=>
    obtain⟨v,H',os,bare,un,hok',r',q⟩:=h;have q':v=.bl true:=q;subst q';obtain rfl:u=Value.bool true:=r';refine⟨rfl,OldK.of_keep λb o e=>?_,os,bare⟩;cases q:H b with
    |none=>exact un.keep b o e q (by intro z;exact absurd (show b ∈ ([]:List Addr) from z) (by simp)) (by simp)
    |some u=>
     rcases hO b with z|⟨ob,xs,z⟩
     .rw[q]at z;cases z
     .have z2:=un.frzs b ob _ z;obtain⟨e1,_⟩:=hok b _ z;obtain⟨e2,_⟩:=hok' b _ z2;rw[e]at e1;cases e1;exact e2
 cases hk:K.lookup a with
 |some o=>
  have e:=KX a o hk;rw[ha]at e;cases e;refine core (λ_=>none) (λ_=>.inl rfl) (.inr ⟨_,vs.toArray,_,hk,rfl,rfl,rfl,by rw[ge,lenV];exact hl,by simpa using rv⟩) (λb u z=>by have z':(none:Option HO)=some u:=z;cases z') (λb z=>absurd rfl z) λz=>absurd rfl z
 |none=>
  refine core (λb=>if b=a then some (.aH { cls:=.type "list",data:=.seq vs.toArray } (.lst (ns.map V.int))) else none) (λb=>?_) (.inl (.inr ⟨{ cls:=.type "list",data:=.seq vs.toArray },if_pos rfl⟩)) (λb u z=>?_) (λb z=>?_) λ_=>hk
  .by_cases hb:b=a
   .exact .inr ⟨_,_,if_pos hb⟩
   .exact .inl (if_neg hb)
  .by_cases hb:b=a
   .have z':=(if_pos hb).symm.trans z;cases z';subst hb;exact⟨ha,by rw[ce];exact hl,vs,_,rv,ha⟩
   .have z':=(if_neg hb).symm.trans z;cases z'
  .by_cases hb:b=a
   .exact hb
   .exact absurd (if_neg hb) z
def wR {l:W.OpenLaw}{n k:Nat}{q:Program}{loose:List Str}{XP:(Str->Option Value)->Heap->Prop}{YP:World->Heap->Prop}{d:DefRec}{K:Params->W.Frag}{CX:World->pJ}{sp:World->Sp}{x:Str}
  (hn:l.most=some n) (hn2:n<=bn) (hdf:d.params.defaults=[]) (hr:bh k callerA)
  (hY:∀ (w:World) (h:Heap),YP w h->(K w.params).In h)
  (F:∀ (w:World) (mg:GF) (fa:Addr) (h:Heap),(K w.params).In h->h.Ns mainGlobals mg->mg d.name=some (.ref fa)->
   ∃ fd:FuncData,(∀ (s:Shared) (u:Value),BindsTo s fd ⟨[u],[]⟩ [(x,u)])/\
    ∀ base:Heap,(K w.params).In base->base.Ns mainGlobals mg->cC l.prog w (K w.params) mg base (CX w) k fa fd [x] (sp w))
  (hsp:∀ (w:World) (H:Hp) (a:Addr) (ns:List Int),ns.length<=n->Af H->aF (K w.params) H a (ns.map V.int)->sp w [.ref a] H (λv _=>v=.bl true) λ_ _=>False)
  (hCX:∀ (w:World) (H:Hp) (s:Shared) (e:Value) (s':Shared),CX w [] H s (λ_ _=>False) e s'->False):
  W.WalkO q loose XP YP l.row.toRowW d [] (λf vs=>PySem.call f vs):=by
 refine Att.lZ hn hdf λw s₀ s₁ mg mb fa o pm cd doc a vs ns G Y ho hd hcd hmg hobj hints hlen hg=>?_
 have KX:=hY w _ Y;obtain⟨fd,hb,hF⟩:=F w mg fa _ KX G.T.g hmg;exact sh KX G.T.g G.T.b G.T.builtins G.T.nolimit hg hobj hints (Nat.le_trans hlen hn2) hr hF hb (λH hO hS=>hsp w H a ns hlen hO hS) λH e s'=>hCX w H s₁ e s'
section
variable {P:Program}{w:World}{K:W.Frag}{mg:GF}{base:Heap}
end
def bI {n:Nat}(h:n<=1000):n<bn:=Nat.lt_of_le_of_lt h (by decide)
section
variable {X:Cx}
end
end L2
namespace L2
open PySem PySem.Spec PySem.W PyProof.Rows PySem.Builtin PySem.Builtin.ObjectAttr
variable {rs:List Addr}
section
variable {prog:Program}{w:World}{A:Around}{E:GC}{s:Shared}{K:W.Frag}{x C:Addr}{ox od:Obj}{name:Str}{expr:Bool}{v:Value}{Q:GC}
def ml:builtinKind "BaseException.__getattribute__"=some .slot:=by decide+kernel
def jB:splitId "BaseException.__getattribute__"=some ("BaseException","__getattribute__"):=by decide+kernel
def wD (X:K.In s.heap)(I:W.InstAt s.heap x ox C (some od))(hga:W.findIn K (.ref C) "__getattribute__"=some (some (.builtin "BaseException.__getattribute__"))) (hgn:W.findIn K (.ref C) "__getattr__"=some none)
  (hb:W.mroIn K C (.type "BaseException")=some true) (hf:W.findObj K C (some od) name=some (.value v)) (hh:W.handedIn v=true) (h:Q v { s with toks:=s.toks+1 }):
  wpAny (model prog w) A (getAttr (.ref x) name expr) Q E s:=by
 obtain⟨hp,g,d,t,os⟩:=s;have L0:=I.type (M:=model prog w);have L1:=looks_findIn (M:=model prog w) X hga;have L2':=looks_findIn (M:=model prog w) X hgn;have L3:=looks_find (M:=model prog w) X I hf;have L4:Looks (model prog w) hp (isInstance (.ref x) (.type "BaseException")) true:=I.type.andThen (looks_mroIn X hb);unfold getAttr getAttrBy;refine ad (wpAny_mkText (bd (ad (L0.at (ad (L1.at ?_))))));have e1:(Value.builtin "BaseException.__getattribute__" ==Value.builtin "object.__getattribute__")=false:=by decide+kernel
 dsimp only;rw[e1,Bool.and_false];show wpAny _ _ (getAttrByItsOwn _ _ _ _ _ _) _ _ _;unfold getAttrByItsOwn hookBefore;refine ad (L2'.at ?_);refine ad (wpAny_attempt (bd ?_));have e2:(expr&&onTheHeap (Value.builtin "BaseException.__getattribute__"))=false:=by cases expr<;>rfl
 unfold callGetattribute;rw[e2];show wpAny _ _ (boundAndCalled _ _ _) _ _ _;unfold boundAndCalled;rw[PySem.F.attr_ValueError.ga.bind];refine ad (am (wpAny_call (codeAny_call_builtin PySem.F.attr_ValueError.ga.plain PySem.F.entry_bexc_ga ?_)));refine @check_slot (model prog w) _ _ _ "BaseException.__getattribute__" "BaseException" "__getattribute__" (.ref x) [.str name t] [] _ ml jB L4 (PySem.F.args_bexc_ga (.ref x) (.str name t)) ?_;unfold Builtin.«object.__getattribute__»;refine ad (am (ad (am (ad (L0.at (ad (L3.at ?_)))))));refine am ?_;show wpAny _ _ (handedOut v) _ _ _;rw[handedOut_of hh];exact am h
abbrev tf:Value->Bool
 | .ref _=>true
 |_=>false
abbrev bw:List Value:=[.type "ValueError",.type "Exception",.type "BaseException",.type "object"]
abbrev cJ (l:List Value):Bool:=l.dropWhile tf ==bw
def cI:∀ {l:List Value},cJ l=true->∃ rs:List Addr,l=rs.map Value.ref++bw
 | [],e=>by cases e
 |c::r,e=>by
  by_cases h:tf c=true
  .have e':cJ r=true:=by
    unfold cJ at e⊢;rw[List.dropWhile_cons_of_pos h]at e;exact e
   obtain⟨rs,q⟩:=cI e';cases c with
   |ref a=>exact⟨a::rs,by rw[q];rfl⟩
   |_=>cases h
  .unfold cJ at e;rw[List.dropWhile_cons_of_neg h]at e;exact⟨[],beq_iff_eq.mp e⟩
def hV (self:Value):∀ rs:List Addr,refuseLoop self "__setattr__" (rs.map Value.ref++bw)=pure ()
 | []=>PySem.F.store_ValueError.passes self
 |a::r=>by rw[map_cons,cons_append,refuseLoop_ref];exact hV self r
structure bR (K:W.Frag) (C:Addr):Prop where
 mt:W.typeIn K (.ref C)=some (.type "type")
 ov:(W.clsIn K C).any (λcd=>cJ cd.mro)=true
 hd:W.hasDictIn K C=true
 ga:W.findIn K (.ref C) "__getattribute__"=some (some (.builtin "BaseException.__getattribute__"))
 gn:W.findIn K (.ref C) "__getattr__"=some none
 sa:W.findIn K (.ref C) "__setattr__"=some (some (.builtin "object.__setattr__"))
def bR.mro (c:bR K C):∃ (cd:ClassData) (rs:List Addr),W.clsIn K C=some cd/\cd.mro=rs.map Value.ref++bw:=by
 obtain⟨cd,h1,h2⟩:=W.any_some c.ov;obtain⟨rs,h3⟩:=cI h2;exact⟨cd,rs,h1,h3⟩
def lT (h:bw.contains v=true):(rs.map Value.ref++bw).contains v=true:=by
 rw[List.contains_eq_mem,decide_eq_true_eq]at h⊢;exact ii _ h
def pG:(rs.map Value.ref++bw).isEmpty=false:=by cases rs<;>rfl
def bR.sub (c:bR K C)(h:bw.contains v=true):W.mroIn K C v=some true:=by
 obtain⟨cd,rs,h1,h2⟩:=c.mro;unfold W.mroIn;rw[h1,Option.bind_some,h2,if_neg (by rw[pG];decide),lT h]
variable {R:Result->Shared->Prop}
def mU {tk:Tok}{odo:Option Obj}(X:K.In s.heap)(I:W.InstAt s.heap x ox C odo)(c:bR K C)(ht:W.findIn K (.ref C) name=some none)
  (h:wpAny (model prog w) A.in1 (storeInOwnDict (.ref x) (.ref C) (.str name tk) name v false)
   (λfin s'=>match fin with| .done f=>R (.ok f) s'| .again c'=>c'.quiet=true/\codeAny (model prog w) A c' R s') (λe s'=>R (.error e) s') s):
  codeAny (model prog w) A (.call (.builtin "object.__setattr__") ⟨[.ref x,.str name tk,v],[]⟩) R s:=by
 have SF:=PySem.F.store_object;obtain⟨cd,rs,hc,hm⟩:=c.mro;have sub:Looks (model prog w) s.heap (isInstance (.ref x) (.type "object")) true:=I.type.andThen (looks_mroIn X (c.sub (by decide+kernel)));refine codeAny_call_builtin SF.slot.plain SF.entry (@check_slot (model prog w) _ _ s "object.__setattr__" "object" "__setattr__" (.ref x) [.str name tk,v] [] _ SF.kind SF.split sub (SF.args (.ref x) (.str name tk) v) ?_);have hl:Looks (model prog w) s.heap (mroOf (.ref C)) cd.mro:=(looks_clsIn X hc).andThen .now;rw[osa_eq,refuse_eq];refine ad (ad (I.type.here (ad (hl.here ?_))));rw[hm,hV];refine am (ad (I.type.here (ad ((looks_findIn X ht).here (ad (am ?_))))));exact h
end
variable {Q:GC}{u:Value}
section
variable {X:Cx}{Y:GD}{U:St}{H:Hp}{s:Shared}{a C dx:Addr}{fs:List (Str×V)}{f:Str}{v:V}{A:Around}{E:GC}{fr:Bool}
def qK {b:Bool}(I:Inv X Y U H s)(e:H a=some (.exc C (some dx) fs fr))(c:bR X.K C)(n:dc X.K C f)(l:fs.lookup f=some v)
  (h:∀ u s',Inv X Y U H s'->RelV v u->Q u s'):wpAny (model X.prog X.w) A (getAttr (.ref a) f b) Q E s:=by
 obtain⟨⟨vs,ho,_⟩,z⟩:=I.hok a _ e;rcases z with⟨z,_⟩|⟨d,ed,_,_,_,mA,hn,r,_⟩
 .cases z
 cases ed;obtain⟨u,hu,ru⟩:=cx.some_of (v:=v) (o:=mA f) (by rw[<-l];exact r f);obtain⟨od,hod,hl⟩:=f6 hn;refine wD (ox:={ cls:=.ref C,dict:=some dx,data:=.fields vs }) (od:=od) I.bp ⟨ho,rfl,rfl,hod⟩ c.ga c.gn (c.sub (by decide+kernel)) (W.findObj_own c.hd n rfl (by rw[hl,hu])) (jn ru) (h u _ (I.tok _) ru)
def oH {y:V}{Q:GB}(I:Inv X Y U H s)(e:H a=some (.exc C (some dx) fs fr))(c:bR X.K C)(n:dc X.K C f)(hl:fs.length<1000)(ry:RelV y u)
  (h:∀ s',Inv X Y U (upd H a (.exc C (some dx) (cp f y fs) fr)) s'->Q () s'):wpAny (model X.prog X.w) A (setAttr (.ref a) f u) Q E s:=by
 obtain⟨⟨vs,ho,zz⟩,z⟩:=id (I.hok a _ e);rcases z with⟨z,_⟩|⟨d,ed,hown,_,hne,mA,hn,r,wi⟩
 .cases z
 cases ed;obtain⟨od,hod,hlk⟩:=f6 hn;have hz:(fs.map (·.1)).length<=bn:=by rw[ce,sizeLine_eq];omega
 have J:W.InstAt s.heap a { cls:=.ref C,dict:=some dx,data:=.fields vs } C (some od):=⟨ho,rfl,rfl,hod⟩;refine W.set_plain I.bp J c.sa (mU (s:={ s with toks:=s.toks+1 }) I.bp J c n ?_);obtain⟨cd,hc,hd'⟩:=W.any_some c.hd;refine ad (am (ad (ad (wpAny_loadPart ho (ad (W.Looks.here (s:={ s with toks:=s.toks+1 }) (W.looks_clsIn I.bp hc) ?_))))));rw[hd'];refine am (a:=some dx) (ad (am (ad ?_)));refine wpAny_nsSet1 (s:={ s with toks:=s.toks+1 }) hn λh' hn2 hs2=>?_
 obtain⟨oD,esD,epD,hoD,hdD,hcD⟩:=hn2.count (PySem.Within.cons f u wi);refine ad (wpAny_lookBehind hoD (by rw[hdD];exact pastItsLine_dict (Nat.le_trans hcD (by rw[length_cons];omega))) ?_);refine am (h _ ?_);refine I.write (x:=a) (e:=dx) (by rw[e];exact True.intro) (.inr hown) (λb q hb z=>(hs2.2 b hb).trans z) ⟨oD,hoD⟩ ?_;refine⟨⟨vs,(hs2.2 _ (Ne.symm hne)).trans ho,zz⟩,.inr ⟨dx,rfl,by rw[ah hne];exact hown,?_,hne,_,hn2,λg=>?_,λg hg=>?_⟩⟩
 .have:=cX f y fs;omega
 .show cx ((cp f y fs).lookup g) (if g=f then some u else mA g);rw[cY]
  by_cases q:g=f
  .rw[if_pos q,if_pos q];exact ry
  .rw[if_neg q,if_neg q];exact r g
 .by_cases q:g=f
  .rw[q];exact(cq f y fs).1
  .refine(cq f y fs).2 g (wi g λz=>hg ?_);show(if g=f then some u else mA g)=none;rw[if_neg q];exact z
def o6 {y:V}{Q:GB}(I:Inv X Y U H s)(e:H a=some (.exc C none fs fr))(c:bR X.K C)(n:dc X.K C f)(ry:RelV y u)
  (h:∀ d s',H d=none->Inv X Y U (upd (upd H d (.own a)) a (.exc C (some d) [(f,y)] fr)) s'->Q () s'):wpAny (model X.prog X.w) A (setAttr (.ref a) f u) Q E s:=by
 obtain⟨⟨vs,ho,zz⟩,z⟩:=id (I.hok a _ e);have hfs:fs=[]:=by
  rcases z with⟨_,z⟩|⟨d,ed,_⟩
  .exact z
  .cases ed
 subst hfs;have J:W.InstAt s.heap a { cls:=.ref C,dict:=none,data:=.fields vs } C none:=⟨ho,rfl,rfl,True.intro⟩;refine W.set_plain I.bp J c.sa (mU (s:={ s with toks:=s.toks+1 }) I.bp J c n ?_);obtain⟨cd,hc,hd'⟩:=W.any_some c.hd;refine ad (am (ad (ad (wpAny_loadPart ho (ad (W.Looks.here (s:={ s with toks:=s.toks+1 }) (W.looks_clsIn I.bp hc) ?_))))));rw[hd'];have hlt:=sK ho;have hxs:a≠s.heap.objs.size:=pc hlt;have ho1:(s.heap.push { cls:=.type "dict",data:=.dict #[] }).get? a=some { cls:=.ref C,dict:=none,data:=.fields vs }:=sw _ ho;refine ad (wpAny_alloc' ?_);refine ad (wpAny_update' ho1 ?_);refine am ?_;have hgd:((s.heap.push { cls:=.type "dict",data:=.dict #[] }).update a λo=>{ o with dict:=some s.heap.objs.size }).get? s.heap.objs.size=some { cls:=.type "dict",data:=.dict #[] }:=
  (Heap.get?_update_ne _ _ _ _ hxs.symm).trans (Heap.get?_push_at rfl rfl)
 have hga:((s.heap.push { cls:=.type "dict",data:=.dict #[] }).update a λo=>{ o with dict:=some s.heap.objs.size }).get? a=some { cls:=.ref C,dict:=some s.heap.objs.size,data:=.fields vs }:=
  Heap.get?_update_self _ ho1 rfl
 have hnd:((s.heap.push { cls:=.type "dict",data:=.dict #[] }).update a λo=>{ o with dict:=some s.heap.objs.size }).Ns s.heap.objs.size (λ_=>none):=
  ⟨_,#[],_,hgd,rfl,λe he=>absurd he (by simp),λ_=>rfl⟩
 show wpAny _ _ (storeInDict s.heap.objs.size (.str f _) f u) _ _ _;unfold storeInDict newKeyGuard;refine ad (am (ad (wpAny_nsSet1 (Heap.Ns1.of_empty hnd) λh' hn2 hs2=>?_)));obtain⟨oD,esD,epD,hoD,hdD,hcD⟩:=hn2.count (PySem.Within.cons f u PySem.Within.nil);refine ad (wpAny_lookBehind hoD (by rw[hdD];exact pastItsLine_dict (Nat.le_trans hcD (by rw[length_cons,List.length_nil,sizeLine_eq];omega))) ?_);have hd0:H s.heap.objs.size=none:=I.hok.fresh (pi _);refine am (h s.heap.objs.size _ hd0 ?_);have e':upd H s.heap.objs.size (.own a) a=some (.exc C none [] fr):=by rw[ah hxs];exact e
 have I1:Inv X Y U (upd H s.heap.objs.size (.own a)) { s with heap:=s.heap.push { cls:=.type "dict",data:=.dict #[] },toks:=s.toks+1 }:=
  I.laid (a:=s.heap.objs.size) (o:=.own a) (t':=s.toks+1) (λb u q=>sw _ q) (pi _) ⟨_,tz s.heap rfl⟩
 have I2:=I1.write (x:=a) (e:=a) (o:=.exc C (some s.heap.objs.size) [] fr) (t':=s.toks+1) (h':=(s.heap.push { cls:=.type "dict",data:=.dict #[] }).update a λo=>{ o with dict:=some s.heap.objs.size })
  (by rw[e'];exact True.intro) (.inl rfl) (λb q hb z=>(Heap.get?_update_ne _ _ _ _ hb).trans z) ⟨_,hga⟩
  ⟨⟨vs,hga,zz⟩,.inr ⟨_,rfl,by rw[ah hxs.symm,ak],Nat.zero_le _,hxs.symm,_,Heap.Ns1.of_empty hnd,λ_=>True.intro,λy hy=>absurd rfl hy⟩⟩
 have ga':h'.get? a=some { cls:=.ref C,dict:=some s.heap.objs.size,data:=.fields vs }:=(hs2.2 a hxs).trans hga;have I3:=I2.write (x:=a) (e:=s.heap.objs.size) (o:=.exc C (some s.heap.objs.size) [(f,y)] fr) (t':=s.toks+1+1) (h':=h') (by rw[ak];exact True.intro) (.inr (by rw[ah hxs.symm,ak]))
  (λb q hb z=>(hs2.2 b hb).trans z) ⟨oD,hoD⟩
  ⟨⟨vs,ga',zz⟩,.inr ⟨_,rfl,by rw[ah hxs.symm,ah hxs.symm,ak],by show 1<=1000;decide,hxs.symm,_,hn2,λg=>?_,λg hg=>?_⟩⟩
 .rw[we]at I3;exact I3
 .show cx (List.lookup g [(f,y)]) (if g=f then some u else none)
  by_cases q:g=f
  .have hb:(g ==f)=true:=beq_iff_eq.mpr q;simp only[List.lookup,hb,if_pos q];exact ry
  .have hb:(g ==f)=false:=beq_eq_false_iff_ne.mpr q;simp only[List.lookup,hb,if_neg q];exact True.intro
 .by_cases q:g=f
  .rw[q];simp
  .exact absurd (show(if g=f then some u else none)=none by rw[if_neg q]) hg
end
section
variable {X:Cx}{Y:GD}{U:St}{H:Hp}{s:Shared}{a C:Addr}{dx:Option Addr}{fs:List (Str×V)}{f:Str}{v:V}{A:Around}{E:GC}{fr:Bool}
def Inv.fields {vs':Array Value}{h':Heap}{t':Nat}(I:Inv X Y U H s)(e:H a=some (.exc C dx fs fr))(hs:vs'.size=6)(h1:fr=true->vs'[1]? =some Value.none)
  (ha:h'.get? a=some { cls:=.ref C,dict:=dx,data:=.fields vs' }) (k:∀ b u,b≠a->s.heap.get? b=some u->h'.get? b=some u):Inv X Y U H { s with heap:=h',toks:=t' }:=by
 have I2:=I.write (x:=a) (e:=a) (o:=.exc C dx fs fr) (t':=t') (h':=h') (by rw[e];exact True.intro) (.inl rfl) k ⟨_,ha⟩ ?_
 .have:upd H a (.exc C dx fs fr)=H:=by
   funext b
   by_cases hb:b=a
   .rw[hb,ak,e]
   .rw[ah hb]
  rw[this]at I2;exact I2
 .obtain⟨_,z⟩:=id (I.hok a _ e);refine⟨⟨vs',ha,hs,h1⟩,?_⟩;rcases z with z|⟨d,ed,d1,z1,ne,mA,⟨od,es,ep,e2,c⟩,r⟩
  .exact .inl z
  .exact .inr ⟨d,ed,by rw[ah ne];exact d1,z1,ne,mA,⟨od,es,ep,k _ _ ne e2,c⟩,r⟩
def iu {R:Result->Shared->Prop}(I:Inv X Y U H s)(e:H a=some (.exc C dx fs fr))(c:bR X.K C)
  (h:∀ s',Inv X Y U H s'->R (.ok (.ret .none)) s'):codeAny (model X.prog X.w) A (.call (.builtin "ValueError.__init__") ⟨[.ref a,u],[]⟩) R s:=by
 have F:=PySem.F.excCall_ValueError;obtain⟨⟨vs,ho,hsz,h1⟩,z⟩:=id (I.hok a _ e);have L4:Looks (model X.prog X.w) s.heap (isInstance (.ref a) (.type "ValueError")) true:=(show Looks (model X.prog X.w) s.heap (typeOf (.ref a)) (.ref C) from(Looks.ld ho).andThen .now).andThen (looks_mroIn I.bp (c.sub (by decide+kernel)));refine codeAny_call_builtin F.init.plain F.initEntry ?_;simp only[checkBuiltinCall,F.initKind,F.initSplit,F.initRow];refine ad (L4.here ?_);simp only[Bool.not_true,Bool.false_eq_true,if_false];have hshort:("ValueError" != "*")=true:=by decide
 have h0:∃ a0,vs[0]? =some a0:=⟨_,Array.getElem?_eq_getElem nofun⟩;obtain⟨a0,h0⟩:=h0;obtain⟨hp,g,d,t,os⟩:=s;unfold Bind.checkArgs;have hn:Looks (model X.prog X.w) hp (typeOf (.ref a)) (.ref C):=(Looks.ld ho).andThen .now;obtain⟨cd,rs,hcl,_⟩:=c.mro;obtain⟨oc,od,sl,hC⟩:∃ oc od sl,hp.get? C=some ⟨oc,od,.cls cd,sl⟩:=by
  unfold W.clsIn at hcl
  split at hcl
  .rename_i ho';cases hcl;exact⟨_,_,_,I.bp _ _ ho'⟩
  .cases hcl
 repeat(first|with_reducible refine wpAny_load hC ?_|wp_step)
 rw[h0];have ho1:(hp.push { cls:=.type "tuple",data:=.seq #[u] }).get? a=some { cls:=.ref C,dict:=dx,data:=.fields vs }:=sw _ ho;have hq:=Heap.get?_update_self (Obj.mapFields (·.setIfInBounds 0 (.ref hp.objs.size))) ho1 (Obj.isFreed_of_fields (Obj.data_mapFields rfl _));have fin:R (.ok (.ret Value.none)) ⟨(hp.push { cls:=.type "tuple",data:=.seq #[u] }).update a (Obj.mapFields (·.setIfInBounds 0 (.ref hp.objs.size))),g,d,t,os⟩:=by
  refine h _ (I.fields (vs':=vs.setIfInBounds 0 (.ref hp.objs.size)) (t':=t) e (by simpa using hsz) (λz=>?_) hq λb q hb z'=>?_)
  .rw[Array.getElem?_setIfInBounds_ne (by decide)];exact h1 z
  .exact(Heap.get?_update_ne _ _ _ _ hb).trans (sw _ z')
 refine am (ad (wpAny_setField ho1 rfl nofun ?_));cases a0<;>first|exact am (am fin)|exact wpAny_letGo (am fin)
def nF (I:Inv X Y U H s)(e:H a=some (.exc C dx fs fr))(c:bR X.K C)
  (h:∀ s',Inv X Y U H s'->Q .none s'):wpAny (model X.prog X.w) A (call (.builtin "ValueError.__init__") [.ref a,u]) Q E s:=wpAny_call (iu I e c h)
end
abbrev bC (K:W.Frag)(C:Addr):Bool:=match K.lookup C with
 |some ⟨_,_,.cls cd,sl⟩=>!cd.abstract&& !cd.hasDel&&(sl.toList[4]?).join ==some (.builtin "ValueError.__new__")&&cJ cd.mro&&cd.mro.contains (.ref C)&&
   W.specialIn K (.ref C) "__call__" ==some (some (.builtin "type.__call__"))&&W.instIn K (.ref C) (.type "type") ==some true
 |_=>false
structure ur (M:Model) (h:Heap) (C:Addr):Prop where
 obj:∃ oc od cd sl,h.get? C=some ⟨oc,od,.cls cd,sl⟩/\cd.abstract=false/\cd.hasDel=false/\cd.mro.isEmpty=false
 made:W.Looks M h (Bind.madeBy (.ref C)) (some "ValueError.__new__")
 base:W.Looks M h (Bind.staticBase (.ref C)) (.ref C)
 self:W.Looks M h (isSubtype (.ref C) (.ref C)) true
 top:W.Looks M h (isSubtype (.ref C) (.type "ValueError")) true
 no1:W.Looks M h (isSubtype (.ref C) (.type "AttributeError")) false
 no2:W.Looks M h (isSubtype (.ref C) (.type "NameError")) false
 call:W.Looks M h (specialOf (.ref C) "__call__") (some (.builtin "type.__call__"))
 typ:W.Looks M h (isInstance (.ref C) (.type "type")) true
def qt {n:String}(h:bw.contains (.type n)=false):(rs.map Value.ref++bw).contains (.type n)=false:=by
 induction rs with
 |nil=>exact h
 |cons a r ih=>rw[map_cons,cons_append,List.contains_cons,ih];rfl
def jt {K:W.Frag}{M:Model}{h:Heap}(X:K.In h){C:Addr}(e:bC K C=true):ur M h C:=by
 unfold bC at e
 split at e
 .rename_i oc od cd sl ho;simp only[lw,Bool.not_eq_true',beq_iff_eq]at e;obtain⟨⟨⟨⟨⟨⟨e1,e2⟩,e3⟩,e4⟩,e5⟩,e7⟩,e8⟩:=e;obtain⟨rs,em⟩:=cI e4;have hc:W.clsIn K C=some cd:=by unfold W.clsIn;rw[ho]
  have hm:Looks M h (mroOf (.ref C)) cd.mro:=(looks_clsIn X hc).andThen .now;have ne:cd.mro.isEmpty=false:=by rw[em];exact pG
  obtain⟨c,l,hl⟩:∃ c l,cd.mro=c::l:=by
   cases q:cd.mro with
   |nil=>rw[q]at ne;cases ne
   |cons c l=>exact⟨c,l,rfl⟩
  have made:Looks M h (Bind.madeBy (.ref C)) (some "ValueError.__new__"):=by
   intro A Q E s k q;unfold Bind.madeBy;refine ad (hm A _ E s k ?_);rw[hl,forIn_cons];refine ad (ad (ad (ad (wpAny_loadPart (k _ _ (X _ _ ho)) (am ?_)))));dsimp only;rw[<-Array.getElem?_toList,e3];exact am (am (am q))
  have mro:∀ {v b},cd.mro.contains v=b->W.mroIn K C v=some b:=λ{v b} q=>by
   unfold W.mroIn;rw[hc,Option.bind_some,if_neg (by rw[ne];decide),q]
  refine⟨⟨oc,od,cd,sl,X _ _ ho,e1,e2,ne⟩,made,?_,looks_mroIn X (mro e5),looks_mroIn X (mro (by rw[em];exact lT (by decide+kernel))),looks_mroIn X (mro (by rw[em];exact qt (by decide+kernel))),looks_mroIn X (mro (by rw[em];exact qt (by decide+kernel))),looks_specialIn X e7,looks_instIn X e8⟩;intro A Q E s k q;unfold Bind.staticBase;refine ad (hm A _ E s k ?_);rw[hl,forIn_cons];exact ad (ad (ad (made A _ E s k (am (am (am q))))))
 .cases e
variable {rest:List Value}
section
variable {prog:Program}{w:World}{A:Around}{K:W.Frag}{C:Addr}{R:Result->Shared->Prop}{h:Heap}{g:Array GenState}{d:Drawn}{t:Nat}{os:OsState}
def yF (Y:ur (model prog w) h C)(hz:rest.length<=bn)
  (hq:R (.ok (.ret (.ref (h.objs.size+1)))) ⟨(h.push { cls:=.type "tuple",data:=.seq rest.toArray }).push { cls:=.ref C,data:=.fields #[.ref h.objs.size,.none,.none,.none,.bool false,.none] },g,d,t,os⟩):
  codeAny (model prog w) A (.call (.builtin "ValueError.__new__") ⟨.ref C::rest,[]⟩) R ⟨h,g,d,t,os⟩:=by
 obtain⟨⟨oc,od,cd,sl,hC,e1,e2,e4⟩,made,base,self,top,no1,no2,call,typ⟩:=Y;have F:=PySem.F.excBase_ValueError;have here:Looks (model prog w) h (Bind.madeHere "BaseException.__new__" (.ref C)) ():=base.andThen (made.andThen (Looks.of_pure (by simp only[Option.map_some,F.canon,bne_self_eq_false,Bool.false_eq_true,if_false])));refine codeAny_call_builtin_code (Code.quiet_builtin _ F.quiet) ?_;simp only[checkBuiltinCall,F.newKind,F.newSplit,F.newRow]
 repeat(first|simp only[bne_self_eq_false,Bool.false_eq_true,if_false]|lk)
 refine codeAny_builtinAt F.entry ?_;unfold Builtin.«BaseException.__new__»;refine PySem.wpAt_bind ?_;show PySem.wpAt _ _ _ (stack >>= _) _ _ _;refine PySem.wpAt_bind (PySem.wpAt_stack λp below=>PySem.wpAt_of_wpAny ?_);have hends:=F.ends
 wp_walk
 refine PySem.wpAt_of_wpAny ?_;rw[F.owner]
 repeat(first|simp only[Bool.not_true,Bool.false_eq_true,if_false]|lk)
 rw[if_neg (show ¬ (rest.toArray.size>bn) by rw[ge];omega)];unfold newObjAsIs;refine ad (wpAny_alloc (am (ad ?_)));show wpAny _ _ (newObjAsIs _ _ _) _ _ _;unfold newObjAsIs classHasDel;refine ad (wpAny_alloc (ad (ad (wpAny_load (sw _ (sw _ hC)) (am ?_)))));rw[e2];refine am (am ?_);show R _ _;rw[Heap.size_push];exact hq
def zJ {fI:Addr}(X:K.In h)(hz:rest.length<=bn)(hm:bC K C=true)(hi:W.findIn K (.ref C) "__init__"=some (some (.ref fI))) (hf:W.typeIn K (.ref fI)=some (.type "function"))
  (hq:codeAny (model prog w) (A.under (.builtin "type.__call__" ⟨.ref C::rest,[]⟩)) (.call (.ref fI) ⟨.ref (h.objs.size+1)::rest,[]⟩) (InitBack (h.objs.size+1) R)
   ⟨(h.push { cls:=.type "tuple",data:=.seq rest.toArray }).push { cls:=.ref C,data:=.fields #[.ref h.objs.size,.none,.none,.none,.bool false,.none] },g,d,t,os⟩):
  codeAny (model prog w) A (.call (.ref C) ⟨rest,[]⟩) R ⟨h,g,d,t,os⟩:=by
 have Y:=jt (M:=model prog w) X hm;have Y':=Y;obtain⟨⟨oc,od,cd,sl,hC,e1,e2,e4⟩,made,base,self,top,no1,no2,call,typ⟩:=Y;refine codeAny_of_tree ?_;show wpAny _ _ (callAny (.ref C) _) _ _ _;refine nd_load hC ?_;show wpAny _ _ (callAny.viaDunder (.ref C) _) _ _ _;unfold callAny.viaDunder;refine ad (call.at ?_);dsimp only;rw[tc_bind];refine ad (am (ad (am ?_)));refine am (a:=Fin.again (.call (.builtin "type.__call__") ⟨.ref C::rest,[]⟩)) (And.intro rfl ?_);refine codeAny_call_builtin_at (Code.quiet_builtin _ (by decide+kernel)) entry_typeCall (check_slot tc_kind tc_split typ (tc_args _ _ _) ?_);unfold Builtin.«type.__call__»;have hmr:Looks (model prog w) h (mroOf (.ref C)) cd.mro:=((Looks.ld (part:=none) hC).andThen .now).andThen .now
 repeat(first|simp only[e4,Bool.false_eq_true,if_false]|with_reducible refine wpAny_call ?_|lk)
 refine yF Y' hz ?_;have k:∀ b o,h.get? b=some o->((h.push { cls:=.type "tuple",data:=.seq rest.toArray }).push { cls:=.ref C,data:=.fields #[.ref h.objs.size,.none,.none,.none,.bool false,.none] }).get? b=some o:=λb o e=>sw _ (sw _ e)
 have hx:((h.push { cls:=.type "tuple",data:=.seq rest.toArray }).push { cls:=.ref C,data:=.fields #[.ref h.objs.size,.none,.none,.none,.bool false,.none] }).get? (h.objs.size+1)=some { cls:=.ref C,data:=.fields #[.ref h.objs.size,.none,.none,.none,.bool false,.none] }:=by heap_get
 have t1:Looks (model prog w) ((h.push { cls:=.type "tuple",data:=.seq rest.toArray }).push { cls:=.ref C,data:=.fields #[.ref h.objs.size,.none,.none,.none,.bool false,.none] }) (typeOf (.ref (h.objs.size+1))) (.ref C):=(Looks.ld hx).andThen .now;have s1:=self.keeps k;have i1:=(looks_findIn (M:=model prog w) X hi).keeps k;have b1:=(bind_fn (M:=model prog w) X (.ref (h.objs.size+1)) hf).keeps k;unfold isInstance callSpecial? specialOf
 repeat(first|with_reducible refine wpAny_call ?_|lk)
 refine codeAny_mono hq λr s' z=>?_
 rcases r with e|(v|_|_|_)<;>first|exact z|exact z.elim|skip
 obtain⟨rfl,z⟩:=z;exact am (am z)
def xD (X:K.In h)(hz:rest.length<=bn)(hm:bC K C=true)(hi:W.findIn K (.ref C) "__init__"=some (some (.builtin "ValueError.__init__")))
  (hq:codeAny (model prog w) (A.under (.builtin "type.__call__" ⟨.ref C::rest,[]⟩)) (.call (.builtin "ValueError.__init__") ⟨.ref (h.objs.size+1)::rest,[]⟩) (InitBack (h.objs.size+1) R)
   ⟨(h.push { cls:=.type "tuple",data:=.seq rest.toArray }).push { cls:=.ref C,data:=.fields #[.ref h.objs.size,.none,.none,.none,.bool false,.none] },g,d,t,os⟩):
  codeAny (model prog w) A (.call (.ref C) ⟨rest,[]⟩) R ⟨h,g,d,t,os⟩:=by
 have Y:=jt (M:=model prog w) X hm;have Y':=Y;obtain⟨⟨oc,od,cd,sl,hC,e1,e2,e4⟩,made,base,self,top,no1,no2,call,typ⟩:=Y;refine codeAny_of_tree ?_;show wpAny _ _ (callAny (.ref C) _) _ _ _;refine nd_load hC ?_;show wpAny _ _ (callAny.viaDunder (.ref C) _) _ _ _;unfold callAny.viaDunder;refine ad (call.at ?_);dsimp only;rw[tc_bind];refine ad (am (ad (am ?_)));refine am (a:=Fin.again (.call (.builtin "type.__call__") ⟨.ref C::rest,[]⟩)) (And.intro rfl ?_);refine codeAny_call_builtin_at (Code.quiet_builtin _ (by decide+kernel)) entry_typeCall (check_slot tc_kind tc_split typ (tc_args _ _ _) ?_);unfold Builtin.«type.__call__»;have hmr:Looks (model prog w) h (mroOf (.ref C)) cd.mro:=((Looks.ld (part:=none) hC).andThen .now).andThen .now
 repeat(first|simp only[e4,Bool.false_eq_true,if_false]|with_reducible refine wpAny_call ?_|lk)
 refine yF Y' hz ?_;have k:∀ b o,h.get? b=some o->((h.push { cls:=.type "tuple",data:=.seq rest.toArray }).push { cls:=.ref C,data:=.fields #[.ref h.objs.size,.none,.none,.none,.bool false,.none] }).get? b=some o:=λb o e=>sw _ (sw _ e)
 have hx:((h.push { cls:=.type "tuple",data:=.seq rest.toArray }).push { cls:=.ref C,data:=.fields #[.ref h.objs.size,.none,.none,.none,.bool false,.none] }).get? (h.objs.size+1)=some { cls:=.ref C,data:=.fields #[.ref h.objs.size,.none,.none,.none,.bool false,.none] }:=by heap_get
 have t1:Looks (model prog w) ((h.push { cls:=.type "tuple",data:=.seq rest.toArray }).push { cls:=.ref C,data:=.fields #[.ref h.objs.size,.none,.none,.none,.bool false,.none] }) (typeOf (.ref (h.objs.size+1))) (.ref C):=(Looks.ld hx).andThen .now;have s1:=self.keeps k;have i1:=(looks_findIn (M:=model prog w) X hi).keeps k;have b1:Looks (model prog w) ((h.push { cls:=.type "tuple",data:=.seq rest.toArray }).push { cls:=.ref C,data:=.fields #[.ref h.objs.size,.none,.none,.none,.bool false,.none] }) (bindSpecial (.builtin "ValueError.__init__") (.ref (h.objs.size+1))) (.builtin "ValueError.__init__",[.ref (h.objs.size+1)]):=Looks.of_pure (PySem.F.excCall_ValueError.init.bind _);unfold isInstance callSpecial? specialOf
 repeat(first|with_reducible refine wpAny_call ?_|lk)
 refine codeAny_mono hq λr s' z=>?_
 rcases r with e|(v|_|_|_)<;>first|exact z|exact z.elim|skip
 obtain⟨rfl,z⟩:=z;exact am (am z)
end
end L2
namespace L2
open PySem PySem.Spec PySem.W PyProof.Rows
abbrev aX (e:Addr)(h h':Heap):Prop:=∀ oe vs,h.get? e=some oe->oe.data=.fields vs->∃ vs',h'.get? e=some { oe with data:=.fields vs' }/\vs'.size=vs.size
abbrev Ap (as:List Addr)(h h':Heap):Prop:=∀ b o,b ∉ as->h.get? b=some o->h'.get? b=some o
abbrev vT (h:Heap)(e T:Addr)(fl:Value):Prop:=∃ oe vs oT ts,h.get? e=some oe/\oe.data=.fields vs/\vs[1]? =some (.ref T)/\T≠e/\h.get? T=some oT/\oT.data=.fields ts/\ts[3]? =some fl
def aX.trans {e:Addr}{h h1 h2:Heap}(a:aX e h h1)(b:aX e h1 h2):aX e h h2:=λoe vs x y=>by
 obtain⟨vs1,x1,z1⟩:=a oe vs x y;obtain⟨vs2,x2,z2⟩:=b _ vs1 x1 rfl;exact⟨vs2,x2,z2.trans z1⟩
def aX.same {e:Addr}{h h':Heap}(k:h'.get? e=h.get? e):aX e h h':=λoe vs x y=>⟨vs,by rw[k,x,<-y],rfl⟩
variable {Q:GB}
section
variable {M:Model}{A:Around}{E:GC}{s:Shared}{base:Heap}{env:Env}{outer:List Env}{L e:Addr}
def jM {oe:Obj}{vs:Array Value}{head:Value}{hadNext:Bool}(hfr:A.frames=some (env::outer))(hl:s.heap.FunFrames base (env::outer))(hf:env.frame=some L)
  (he:s.heap.get? e=some oe) (hd:oe.data=.fields vs) (hsz:1<vs.size)
  (q:∀ h' T,s.heap.objs.size<=T->vT h' e T (rawInt L)->aX e s.heap h'->(∀ b o,b≠e->s.heap.get? b=some o->∃ sl,h'.get? b=some { o with slots:=sl })->Ap (e::kA (env::outer)) s.heap h'->Q () { s with heap:=h' }):
  wpAny M A (do let a <-frameOf env;let pl <-entryPlaceOf L hadNext;let b <-EntryCells.newEntry head a .none (rawInt L) .none pl;setField (.ref e) 1 b) Q E s:=by
 have hne:e ∉ kA (env::outer):=λhm=>by
  obtain⟨_,o,ho,hnf⟩:=hl.mem hm;rw[he]at ho;cases ho;exact hnf vs hd
 refine ad (wpAny_frameOf_fun hfr hl hf λh1 s1=>ad (wpAny_entryPlaceOf λpl hpl=>?_));unfold EntryCells.newEntry newFields;refine ad (wpAny_newObj_type ?_ (hpl.sizeOk5 _ _ _ _ _));have e1:h1.get? e=some oe:=(s1.2.1 e hne).trans he;have e2:=sw (h:=h1) { cls:=.type "traceback",dict:=none,data:=.fields ([head,.ref L,.none,rawInt L,.none]++(if pl.isEmpty then sn 6 Value.none else pl)).toArray } e1;have hTe:h1.objs.size≠e:=Nat.ne_of_gt (sK e1);have d3:=Obj.data_mapFields hd (·.setIfInBounds 1 (Value.ref h1.objs.size));have e3:=Heap.get?_update_self (Obj.mapFields (·.setIfInBounds 1 (Value.ref h1.objs.size))) e2 (Obj.isFreed_of_fields d3);have t3:=(Heap.get?_update_other (h1.push { cls:=.type "traceback",dict:=none,data:=.fields ([head,.ref L,.none,rawInt L,.none]++(if pl.isEmpty then sn 6 Value.none else pl)).toArray })
  (Obj.mapFields (·.setIfInBounds 1 (Value.ref h1.objs.size))) (Ne.symm hTe)).trans (tz h1 rfl)
 have keep:∀ b o,b≠e->h1.get? b=some o->((h1.push { cls:=.type "traceback",dict:=none,data:=.fields ([head,.ref L,.none,rawInt L,.none]++(if pl.isEmpty then sn 6 Value.none else pl)).toArray }).update e (Obj.mapFields (·.setIfInBounds 1 (Value.ref h1.objs.size)))).get? b=some o:=
  λb o hb hq=>(Heap.get?_update_other _ _ (Ne.symm hb)).trans (sw _ hq)
 refine wpAny_setField e2 hd hsz (q _ h1.objs.size ?_ ?_ ?_ (λb o hb ho=>?_) λb o hb ho=>?_)
 .rw[s1.1];exact pi _
 .refine⟨_,_,_,_,e3,d3,by simp[hsz],hTe,t3,rfl,?_⟩
  first|(simp;done)|(rcases hpl with rfl|⟨_,_,_,_,_,_,_,rfl⟩<;>simp)
 .intro oe' vs' x y;rw[he]at x;cases x;rw[hd]at y;cases y;refine⟨vs.setIfInBounds 1 (.ref h1.objs.size),?_,by simp⟩;rw[e3];obtain⟨c0,d0,dt,sl0⟩:=oe;cases hd
  rfl
 .obtain⟨sl,z⟩:=s1.2.2 b o ho;exact⟨sl,keep b _ hb z⟩
 .exact keep b o (λz=>hb (by rw[z];exact li)) ((s1.2.1 b λz=>hb (dl _ z)).trans ho)
abbrev zx (n₀:Nat)(ps:GD)(H:Hp)(h:Heap)(e:Addr):Prop:=(∃ oe vs,h.get? e=some oe/\oe.data=.fields vs/\vs[1]? =some Value.none)\/∃ T,n₀<=T/\H T=none/\(∀ p ∈ ps,p.1≠T)/\vT h e T .none
def xt {n₀:Nat}{ps:GD}{H:Hp}(hfr:A.frames=some (env::outer))(hl:s.heap.FunFrames base (env::outer))(hf:env.frame=some L)(sf:zx n₀ ps H s.heap e)(h0:n₀<=s.heap.objs.size)(hps:∀ p ∈ ps,p.1<s.heap.objs.size)
  (q:∀ h' T T0,s.heap.objs.size<=T->n₀<=T0->(H T0=none\/s.heap.objs.size<=T0)->(∀ p ∈ ps,p.1≠T0)->(∀ o,s.heap.get? T0=some o->∃ ts,o.data=.fields ts)->vT h' e T (rawInt L)->aX e s.heap h'->h'.FunFrames base (env::outer)->(∀ b o,b≠e->b≠T0->s.heap.get? b=some o->∃ sl,h'.get? b=some { o with slots:=sl })->Ap (e::T0::kA (env::outer)) s.heap h'->(∀ b o,s.heap.get? b=some o->∃ o',h'.get? b=some o')->Q () { s with heap:=h' }):
  wpAny M A (noteFrame (.ref e) env) Q E s:=by
 have fun_of:∀ {h':Heap}{as:List Addr},(∀ b ∈ as,∀ o,s.heap.get? b=some o->∃ vs,o.data=.fields vs)->(∀ b o,b ∉ as->s.heap.get? b=some o->∃ sl,h'.get? b=some { o with slots:=sl })->h'.FunFrames base (env::outer):=
  λ{h' as} ha k=>hl.of_keeps λb o ho hnf=>by
   by_cases hb:b ∈ as
   .obtain⟨vs,z⟩:=ha b hb o ho;exact absurd z (hnf vs)
   .obtain⟨sl,z⟩:=k b o hb ho;exact⟨_,z,rfl⟩
 unfold noteFrame;simp only[hf];rcases sf with⟨oe,vs,he,hd,h1⟩|⟨T0,hT0,hH0,hp0,oe,vs,oT,ts,he,hd,h1,hTe,hT,hdT,h3⟩
 .skip
  refine ad (ap he hd h1 ?_);rw[if_neg (by decide)];refine jM hfr hl hf he hd (Array.getElem?_eq_some_iff.mp h1).1 λh' T hT st fo sl sy=>?_
  refine q h' T s.heap.objs.size hT h0 (.inr (pi _)) (λp hp=>pc (hps p hp)) (λo z=>absurd (sK z) (Nat.lt_irrefl _)) st fo ?_ (λb o hb _ ho=>sl b o hb ho) (λb o hb ho=>sy b o (λz=>hb ?_) ho) λb o ho=>?_
  .refine fun_of (as:=[e]) (λb hb o ho=>?_) λb o hb ho=>sl b o (by simpa using hb) ho
   obtain rfl:b=e:=by simpa using hb
   rw[he]at ho;cases ho;exact⟨vs,hd⟩
  .rcases lv.mp z with z|z
   .exact lv.mpr (.inl z)
   .exact dl _ (dl _ z)
  .by_cases hb:b=e
   .subst hb;rw[he]at ho;cases ho;obtain⟨vs',z,_⟩:=fo _ _ he hd;exact⟨_,z⟩
   .obtain⟨sl',z⟩:=sl b o hb ho;exact⟨_,z⟩
 .refine ad (ap he hd h1 ?_);rw[if_pos (show(Value.ref T0 != Value.none)=true from by simp)];refine ad (ap hT hdT h3 ?_);rw[if_neg (show ¬ ((Value.none ==rawInt L)=true) from by simp[rawInt])];refine ad (wpAny_setField hT hdT (Array.getElem?_eq_some_iff.mp h3).1 ?_);have other:∀ b,b≠T0->(s.heap.update T0 (Obj.mapFields (·.setIfInBounds 3 Value.none))).get? b=s.heap.get? b:=λb hb=>Heap.get?_update_other _ _ (Ne.symm hb)
  have self':=Heap.get?_update_self (Obj.mapFields (·.setIfInBounds 3 Value.none)) hT (Obj.isFreed_of_fields (Obj.data_mapFields hdT _));have rec':∀ b o,s.heap.get? b=some o->(∀ vs,o.data≠.fields vs)->b≠T0:=λb o hb hnf z=>by
   rw[z,hT]at hb;cases hb;exact hnf ts hdT
  refine jM (base:=base) hfr (hl.of_keeps λb o hb hnf=>⟨o,(other b (rec' b o hb hnf)).trans hb,rfl⟩) hf ((other e (Ne.symm hTe)).trans he) hd (Array.getElem?_eq_some_iff.mp h1).1 λh' T hTn st fo sl sy=>?_
  have hTn':s.heap.objs.size<=T:=by
   have z:(s.heap.update T0 (Obj.mapFields (·.setIfInBounds 3 Value.none))).objs.size<=T:=hTn
   rwa [Heap.size_after_update]at z
  refine q h' T T0 hTn' hT0 (.inl hH0) hp0 (λo z=>by rw[hT]at z;cases z;exact⟨ts,hdT⟩) st (aX.trans (aX.same (other e (Ne.symm hTe))) fo) ?_ (λb o hb hb0 ho=>sl b o hb ((other b hb0).trans ho)) (λb o hb ho=>?_) λb o ho=>?_
  .refine fun_of (as:=[e,T0]) (λb hb o ho=>?_) λb o hb ho=>sl b o (λz=>hb (by simp[z])) ((other b λz=>hb (by simp[z])).trans ho)
   rcases lv.mp hb with hb|hb
   .subst hb;rw[he]at ho;cases ho;exact⟨vs,hd⟩
   .obtain rfl:b=T0:=by simpa using hb
    rw[hT]at ho;cases ho;exact⟨ts,hdT⟩
  .have n1:b≠e:=λz=>hb (by simp[z])
   have n2:b≠T0:=λz=>hb (by simp[z])
   refine sy b o (λz=>hb ?_) ((other b n2).trans ho);rcases lv.mp z with z|z
   .exact lv.mpr (.inl z)
   .exact dl _ (dl _ z)
  .by_cases hb:b=e
   .subst hb;obtain⟨vs',z,_⟩:=fo _ _ ((other b (Ne.symm hTe)).trans he) hd;exact⟨_,z⟩
   .by_cases hb0:b=T0
    .subst hb0;obtain⟨sl',z⟩:=sl b _ hb self';exact⟨_,z⟩
    .obtain⟨sl',z⟩:=sl b o hb ((other b hb0).trans ho);exact⟨_,z⟩
def pq {T:Addr}{fl:Value}(st:vT s.heap e T fl)
  (q:∀ h',vT h' e T .none->(∀ b,b≠T->h'.get? b=s.heap.get? b)->(∃ o,s.heap.get? T=some o)->(∃ o,h'.get? T=some o)->(∃ oT ts,h'.get? T=some oT/\oT.data=.fields ts)->Q () { s with heap:=h' }):wpAny M A (setFlight (.ref e) none) Q E s:=by
 obtain⟨oe,vs,oT,ts,he,hd,h1,hTe,hT,hdT,h3⟩:=st;have hz:3<ts.size:=(Array.getElem?_eq_some_iff.mp h3).1;have other:∀ b,b≠T->(s.heap.update T (Obj.mapFields (·.setIfInBounds 3 ((none:Option Addr).elim Value.none λf=>rawInt f)))).get? b=s.heap.get? b:=λb hb=>Heap.get?_update_other _ _ (Ne.symm hb)
 have self':=Heap.get?_update_self (Obj.mapFields (·.setIfInBounds 3 ((none:Option Addr).elim Value.none λf=>rawInt f))) hT (Obj.isFreed_of_fields (Obj.data_mapFields hdT _));unfold setFlight;refine ad (ap he hd h1 ?_);rw[if_pos (show(Value.ref T != Value.none)=true from by simp)];refine wpAny_setField hT hdT hz (q _ ⟨oe,vs,_,_,(other e (Ne.symm hTe)).trans he,hd,h1,hTe,self',Obj.data_mapFields hdT _,by simp[hz]⟩ other ⟨_,hT⟩ ⟨_,self'⟩ ⟨_,_,self',Obj.data_mapFields hdT _⟩)
end
variable {A:Around}
section
variable {X:Cx}{U:St}{H:Hp}{s:Shared}{e C:Addr}{dx:Option Addr}{fs:List (Str×V)}{h':Heap}
def Inv.tM {Y:GD}(I:Inv X Y U H s):Inv X [] U H s:=I.j7 λ_ z=>absurd z (by simp)
def Inv.Dg {T0:Addr}{as:List Addr}(I:Inv X [] U H s)(hpn:∀ p ∈ X.pn,p.1≠T0) (he:H e=some (.exc C dx fs false)) (has:as=kA X.stack)
  (hT:X.s₀.heap.objs.size<=T0) (hT0:H T0=none\/s.heap.objs.size<=T0) (hTd:∀ o,s.heap.get? T0=some o->∃ ts,o.data=.fields ts)
  (fo:aX e s.heap h') (sl:∀ b o,b≠e->b≠T0->s.heap.get? b=some o->∃ sl,h'.get? b=some { o with slots:=sl }) (sy:Ap (e::T0::as) s.heap h') (th:∀ b o,s.heap.get? b=some o->∃ o',h'.get? b=some o'):
  Inv X [] U H { s with heap:=h' }:=by
 subst has;obtain⟨⟨vs,ho,hsz,_⟩,z⟩:=id (I.hok e _ he);have hH0:H T0=none:=by
  rcases hT0 with z|z
  .exact z
  .exact I.hok.fresh z
 have nT:∀ {b:Addr}{o:Obj},s.heap.get? b=some o->(∀ vs,o.data≠.fields vs)->b≠T0:=λ{b o} hb hn z=>by
  subst z;obtain⟨ts,q⟩:=hTd _ hb;exact hn ts q
 have eo:∀ b o,H b=none->b≠T0->b ∉ kA X.stack->s.heap.get? b=some o->h'.get? b=some o:=λb o hb h0 hf hq=>sy b o (λm=>by
  rcases lv.mp m with m|m
  .rw[m,he]at hb;cases hb
  .rcases lv.mp m with m|m
   .exact h0 m
   .exact hf m) hq
 have zj:∀ a u,H a=some u->a≠e->∀ o,s.heap.get? a=some o->h'.get? a=some o:=λa u ha ne o hq=>sy a o (λm=>by
  rcases lv.mp m with m|m
  .exact ne m
  .rcases lv.mp m with m|m
   .rw[m,hH0]at ha;cases ha
   .rw[I.j4 a m]at ha;cases ha) hq
 refine I.step (g':=s.gens) (t':=s.toks) (d':=s.drawn) (ch:=[T0]) (h':=h') (λb hb=>?_) (λb o hL hfs hch hq hn=>?_) (λb o hL hfs hch hq hn=>?_) (λb o _ _ hn=>hn) (λb o _ hq=>th b o hq) (λ_ _ q=>q) (λ_ _ _ q=>q) (λb ps q=>⟨#[],by rw[q];simp⟩) (λm hm=>?_) (λa u ha=>?_) I.bare
 .obtain rfl:b=T0:=by simpa using hb
  refine⟨.inr hT,?_,λx c hc z=>?_,λp hp=>hpn p (by simpa using hp)⟩
  .obtain⟨m,⟨o,es,ep,ho',hd,_⟩,_⟩:=I.loc;intro z;exact nT ho' (λvs q=>by rw[hd]at q;cases q) z.symm
  .obtain⟨v,o,ho',hd⟩:=I.cell x c hc;exact nT ho' (λvs q=>by rw[hd]at q;cases q) z
 .refine eo b o hn (by simpa using hch) (λm=>?_) hq;rcases lv.mp (I.f7 b m) with z|z
  .exact hL z
  .exact hfs z
 .exact sl b o (λz=>by rw[z,he]at hn;cases hn) (by simpa using hch) hq
 .obtain⟨o,es,ep,ho',hd,r⟩:=hm;have n1:X.env.locals≠e:=λz=>by have:=I.free;rw[z,he]at this;cases this
  obtain⟨sl',q⟩:=sl _ o n1 (nT ho' λvs q=>by rw[hd]at q;cases q) ho';exact⟨_,es,ep,q,hd,r⟩
 .by_cases hae:a=e
  .subst hae;rw[he]at ha;cases ha;obtain⟨vs',q,hz⟩:=fo _ vs ho rfl;refine⟨⟨vs',q,hz.trans hsz,λy=>by cases y⟩,?_⟩;rcases z with z|⟨d,ed,d1,z1,ne,mA,⟨od,es,ep,e2,c⟩,r⟩
   .exact .inl z
   .exact .inr ⟨d,ed,d1,z1,ne,mA,⟨od,es,ep,zj d _ d1 ne _ e2,c⟩,r⟩
  .refine(I.hok a u ha).eo (λb o hb hq=>?_) (λ_ q=>q) λ_ _ q=>q
   rcases hb with hb|hb
   .subst hb;exact zj b u ha hae o hq
   .refine zj b _ hb (λz=>?_) o hq;rw[z,he]at hb;cases hb
abbrev sC (P:Program)(w:World):pJ:=λouter H s E u s'=>∃ (e:Addr) (H':Hp) (C:Addr) (dx:Option Addr) (fs:List (Str×V)) (T:Addr),u=.ref e/\s'.os=s.os/\AllBare s'.gens/\Un (kA outer) [] H H' s.heap s'.heap/\dJ P w H' s'.heap/\
 H' e=some (.exc C dx fs false)/\s.heap.objs.size<=T/\H' T=none/\vT s'.heap e T .none/\E e H'
abbrev B3 (X:Cx)(E:St->XK):Prop:=∀ (U:St) (H:Hp) (s:Shared) (e C:Addr) (dx:Option Addr) (fs:List (Str×V)),Inv X [] U H s->zx X.s₀.heap.objs.size X.pn H s.heap e->H e=some (.exc C dx fs false)->E U e H->X.xe (.ref e) s
def jD {E:St->XK}(x:B3 X E):Passes (sC X.prog X.w) X E:=by
 intro Y U H s u s' I h;obtain⟨e,H',C,dx,fs,T,rfl,os,bare,un,hok,he,hT,hT0,st,q⟩:=h;have J:Inv X [] U H' s':=Inv.uD (ch:=[]) I.tM os un hok bare (λb z=>absurd z (by simp));exact x U H' s' e C dx fs J (.inr ⟨T,Nat.le_trans I.sz hT,hT0,λp hp=>pc (nl (sK (I.pin p (mem_append_left _ hp)).1) hT),st⟩) he q
def jx {M:Model}{E E':GC}{Q:Shared->Prop}(I:Inv X [] U H s)(hs:X.stack=X.env::X.outer)(hf:X.env.frame=some X.env.locals)(sf:zx X.s₀.heap.objs.size X.pn H s.heap e)(he:H e=some (.exc C dx fs false))
  (q:∀ s' T,Inv X [] U H s'->s'.os=s.os->X.s₀.heap.objs.size<=T->H T=none->(∀ p ∈ X.pn,p.1≠T)->vT s'.heap e T .none->Q s'):
  wpAny M X.A (noteFrame (.ref e) X.env) (λ_ s1=>wpAny M X.A (setFlight (.ref e) none) (λ_ s2=>Q s2) E s1) E' s:=by
 have hl:s.heap.FunFrames X.base (X.env::X.outer):=hs▸I.stack;refine xt (by rw[<-hs];exact I.ok.frames) hl hf sf I.sz (λp hp=>sK (I.pin p (mem_append_left _ hp)).1) λh1 T T0 hT hT0 hH0 hp0 hTd st fo fF sl sy th=>?_
 have I1:=I.Dg (T0:=T0) (as:=kA (X.env::X.outer)) (h':=h1) hp0 he (by rw[hs]) hT0 hH0 hTd fo sl sy th;have hHT:H T=none:=I.hok.fresh hT;have hpT:∀ p ∈ X.pn,p.1≠T:=λp hp=>pc (nl (sK (I.pin p (mem_append_left _ hp)).1) hT)
 refine pq (s:={ s with heap:=h1 }) st λh2 om oth _ th2 rec2=>?_
 have I2:Inv X [] U H { s with heap:=h2 }:=by
  refine Inv.turned (s:={ s with heap:=h1 }) (it:=T) (h':=h2) (t':=s.toks) I1 (λb o hb hq=>(oth b hb).trans hq) hHT ?_ (.inr (Nat.le_trans I.sz hT)) (λx c hc z=>?_) λp hp=>hpT p (by simpa using hp)
  .exact λz=>absurd (nl I.lt hT) (by rw[z];exact Nat.lt_irrefl _)
  .obtain⟨v,o,ho,_⟩:=I.cell x c hc;exact absurd (nl (sK ho) hT) (by rw[z];exact Nat.lt_irrefl _)
 exact q _ T I2 rfl (Nat.le_trans I.sz hT) hHT hpT om
def qS {P:Program}{w:World}{K:W.Frag}{mg:GF}{base:Heap}{N:List Str}{qual:Str}{scope:Scope}{f:Addr}{cd:Value}{outer:List Env}{E:XK}:
  B3 (qV (sC P w) P w K mg base N qual scope f cd A outer s H E) (λ_=>E):=by
 intro σ' H' s' e C dx fs I sf he q;show wpAny _ _ (do noteFrame (.ref e) _;setFlight (.ref e) none) _ _ s';refine ad (jx I rfl rfl sf he λs2 T J os hT hH _ st=>?_);exact⟨e,H',C,dx,fs,T,rfl,J.os,J.bare,J.base,J.hok,he,hT,hH,st,q⟩
end
structure DR (K:W.Frag) (C f:Addr):Prop where
 mks:bC K C=true
 init:W.findIn K (.ref C) "__init__"=some (some (.ref f))
 fn:W.isFn K (.ref f)=true
 kp:W.keepIn K (.ref C)=true
variable {us:List Value}{vs:List V}
section
variable {X:Cx}{Y:GD}{U:St}{H:Hp}{s:Shared}{C f:Addr}
def Inv.yG (us:List Value)(I:Inv X Y U H s):Inv X Y U (upd H (s.heap.objs.size+1) (.exc C none [] true))
  { s with heap:=(s.heap.push { cls:=.type "tuple",data:=.seq us.toArray }).push { cls:=.ref C,data:=.fields #[.ref s.heap.objs.size,.none,.none,.none,.bool false,.none] } }:=by
 have I1:=I.kept (h':=s.heap.push { cls:=.type "tuple",data:=.seq us.toArray }) (t':=s.toks) λb u q=>sw _ q
 refine Inv.laid (s:={ s with heap:=s.heap.push { cls:=.type "tuple",data:=.seq us.toArray } }) (a:=s.heap.objs.size+1) (o:=.exc C none [] true) (t':=s.toks) I1 (λb u q=>sw _ q) (Nat.le_of_eq (Heap.size_push _ _)) ?_;refine⟨⟨#[.ref s.heap.objs.size,.none,.none,.none,.bool false,.none],?_,rfl,λ_=>rfl⟩,.inl ⟨rfl,rfl⟩⟩;have:=tz (s.heap.push { cls:=.type "tuple",data:=.seq us.toArray }) (o:={ cls:=.ref C,data:=.fields #[.ref s.heap.objs.size,.none,.none,.none,.bool false,.none] }) rfl
 rwa [Heap.size_push]at this
variable {CX:pJ}{k:Nat}{fd:FuncData}{ps:List Str}{sp:Sp}{dvs:List V}{ds:List Value}{E:St->XK}{x m:Str}{p pos apos:Pos}{e o:Expr}{es:List Expr}{ta:TE}{t:TA}
abbrev uM (C:Addr)(sp:Sp)(dvs:List V)(E:St->XK)(t:TA):TE:=λU H Q=>t U H λvs H1=>vs.length<=1000/\∀ x,H1 x=none->sp (.ref x::(vs++dvs)) (upd H1 x (.exc C none [] true)) (λv H2=>v=.non/\Q (.ref x) H2) (E U)
def js {Q:VK}(M:DR X.K C f)(F:cC X.prog X.w X.K X.mg X.base CX k f fd ps sp)(hr:bh (k+1) X.A)(hb:Binds X.K fd ps ds)(hd:Vals dvs ds)
  (hx:Passes CX X E) (hz:us.length<=bn) (I:Inv X Y U H s) (r:Vals vs us)
  (h:∀ x,H x=none->sp (.ref x::(vs++dvs)) (upd H x (.exc C none [] true)) (λv H2=>v=.non/\Q (.ref x) H2) (E U)):
  wpAny (model X.prog X.w) X.A (call (.ref C) us) (EP X Y U Q) X.xe s:=by
 have hq:=h (s.heap.objs.size+1) (I.hok.fresh (Nat.le_succ _));have I2:=Inv.yG (C:=C) us I;have r2:Vals (V.ref (s.heap.objs.size+1)::(vs++dvs)) (Value.ref (s.heap.objs.size+1)::(us++ds)):=.cons rfl (r.append hd);have hl:(Value.ref (s.heap.objs.size+1)::us++ds).length=ps.length:=by
  have e:=r2.length;rw[F.len _ _ _ _ hq]at e;exact e.symm
 obtain⟨hh,g,d,tk,os⟩:=s;refine wpAny_call (zJ (fI:=f) I.bp hz M.mks M.init (beq_iff_eq.mp M.fn) (codeAny_mono (F.run _ X.stack _ _ ⟨Value.ref (hh.objs.size+1)::us,[]⟩ (Value.ref (hh.objs.size+1)::(us++ds)) _ _ (E U) (hr.make C us [])
  (I2.fS.make C us []) (hb _ (Value.ref (hh.objs.size+1)::us) I2.bp hl) r2 hq) λr s' hq'=>?_))
 cases r with
 |error e=>exact hx Y U _ _ e s' I2 hq'
 |ok fl=>
  cases fl with
  |ret u=>
   obtain⟨v,H',J,rv,ev,q⟩:=I2.after hq';subst ev;obtain rfl:u=Value.none:=rv;exact⟨rfl,.ref _,H',J,rfl,q⟩
  |next=>exact False.elim hq'
  |brk=>exact False.elim hq'
  |cont=>exact False.elim hq'
def vo (M:DR X.K C f)(F:cC X.prog X.w X.K X.mg X.base CX k f fd ps sp)(hr:bh (k+1) X.A)(hg:Gl X x)(hm:X.mg x=some (.ref C))(hb:Binds X.K fd ps ds)(hd:Vals dvs ds)(hx:Passes CX X E)
  (ha:PA X (e::es) t) (hdb:(x ==("__debug__":Str))=false:=by decide) (he:bm (e::es) X.env=(false,eval e X.env)::bm es X.env:=by rfl) (hpl:(backTo pos (bm es X.env)).any (·.1)=false:=by rfl):
  PE X (.Call (.Name x p) (e::es) [] pos) (uM C sp dvs E t):=by
 intro Y s U H Q I h;refine bv (aY I hg hm ?_ hdb);refine W.callWith_K (h₀:=X.base) I.ok.mod.kin M.kp (aB (ha pos Y s U H _ I h) λus s1 ⟨vs,H1,I1,r,z,q⟩=>⟨I1.bp,?_⟩) he hpl;exact js M F hr hb hd hx (by rw[nil_append,<-r.length];exact Nat.le_of_lt (bI z)) I1 r q
structure AD (K:W.Frag) (C:Addr):Prop where
 mks:bC K C=true
 init:W.findIn K (.ref C) "__init__"=some (some (.builtin "ValueError.__init__"))
 kp:W.keepIn K (.ref C)=true
 cls:bR K C
abbrev xp (C:Addr)(t:TA):TE:=λU H Q=>t U H λvs H1=>vs.length=1/\∀ x,H1 x=none->Q (.ref x) (upd H1 x (.exc C none [] true))
def oZ {Q:VK}(M:AD X.K C)(I:Inv X Y U H s)(r:Vals vs us)(h1:vs.length=1)(h:∀ x,H x=none->Q (.ref x) (upd H x (.exc C none [] true))):
  wpAny (model X.prog X.w) X.A (call (.ref C) us) (EP X Y U Q) X.xe s:=by
 have hq:=h (s.heap.objs.size+1) (I.hok.fresh (Nat.le_succ _));have I2:=Inv.yG (C:=C) us I;obtain⟨u,rfl⟩:∃ u,us=[u]:=by
  have e:=r.length;rw[h1]at e
  match us,e with
  | [u],_=>exact⟨u,rfl⟩
 obtain⟨hh,g,d,tk,os⟩:=s;refine wpAny_call (xD I.bp (by rw[sizeLine_eq];exact nw rfl) M.mks M.init (iu (C:=C) (dx:=none) (fs:=[]) (fr:=true) I2 ak M.cls λs' J=>?_));exact⟨rfl,.ref _,_,J,rfl,hq⟩
def tO (M:AD X.K C)(hg:Gl X x)(hm:X.mg x=some (.ref C))(ha:PA X (e::es) t)(hdb:(x ==("__debug__":Str))=false:=by decide) (he:bm (e::es) X.env=(false,eval e X.env)::bm es X.env:=by rfl) (hpl:(backTo pos (bm es X.env)).any (·.1)=false:=by rfl):
  PE X (.Call (.Name x p) (e::es) [] pos) (xp C t):=by
 intro Y s U H Q I h;refine bv (aY I hg hm ?_ hdb);refine W.callWith_K (h₀:=X.base) I.ok.mod.kin M.kp (aB (ha pos Y s U H _ I h) λus s1 ⟨vs,H1,I1,r,z,q⟩=>⟨I1.bp,?_⟩) he hpl;exact oZ M I1 r z q
structure Fx (K:W.Frag) (B:Addr):Prop where
 ga:W.specialIn K (.ref B) "__getattribute__"=some (some (.builtin "type.__getattribute__"))
 rd:W.readsIn K B (.type "type")=true
 fi:W.findCls K (.ref B) (.type "type") "__init__"=some (.val (.builtin "ValueError.__init__"))
abbrev EW (K:W.Frag)(t:TA):TE:=λU H Q=>t U H λvs H1=>∃ a C dx fs fr v,vs=[.ref a,v]/\H1 a=some (.exc C dx fs fr)/\bR K C/\Q .non H1
def zD {B:Addr}{pl:Sem Bool}{np:Pos}(b:Fx X.K B)(hg:Gl X x)(hm:X.mg x=some (.ref B))(ha:PA X (e::es) t)(hdb:(x ==("__debug__":Str))=false:=by decide)
  (hst:bm (e::es) X.env=(false,eval e X.env)::bm es X.env:=by rfl) (hpl:(backTo pos (bm es X.env)).any (·.1)=false:=by rfl)
  (ht:eval (.Call (.Attribute (.Name x np) "__init__" apos) (e::es) [] pos) X.env=(do
   let ov <-eval (.Name x np) X.env
   standAt apos.atName
   let(f,first) <-holding [ov] (getMethod ov "__init__" pl)
   callWith pos f first (backTo pos (bm (e::es) X.env)) (backToKw pos (keywordEach [] X.env))):=by rfl):
  PE X (.Call (.Attribute (.Name x np) "__init__" apos) (e::es) [] pos) (EW X.K t):=by
 intro Y s U H Q I h;refine W.methodCall_KW (pl:=pl) (aY I hg hm ?_ hdb) ht;refine W.method_cls I.bp b.ga (W.cls_value I.bp b.rd b.fi (by decide+kernel) ?_);refine PyProof.Rows.callWith_builtin1 (aB (ha pos Y _ U H _ (I.tok _) h) λus s1 ⟨vs,H1,I1,r,a,C,dx,fs,fr,v,ev,ea,c,q⟩=>?_) hst hpl;subst ev;cases r with
 |cons r1 r2=>
  cases r2 with
  |cons r3 r4=>
   cases r4;cases r1;exact nF I1 ea c λs' J=>⟨.non,H1,J,rfl,q⟩
structure FL (K:W.Frag) (C f:Addr):Prop where
 ga:W.specialIn K (.ref C) "__getattribute__"=some (some (.builtin "type.__getattribute__"))
 rd:W.readsIn K C (.type "type")=true
 fi:W.findCls K (.ref C) (.type "type") "__init__"=some (.val (.ref f))
 kp:W.keepIn K (.ref f)=true
end
section
open PySem.Builtin PySem.Builtin.ObjectAttr
variable {prog:Program}{w:World}{A:Around}{E:GC}{s:Shared}{K:W.Frag}{x C:Addr}{ox:Obj}{odo:Option Obj}
structure tW (K:W.Frag) (C:Addr):Prop where
 ha:W.findIn K (.ref C) "__class__"=some (some (.builtin "object.__class__"))
 hn:W.specialIn K (.builtin "object.__class__") "__get__"=some (some (.builtin "getset_descriptor.__get__"))
 htk:W.takesIn K (.builtin "object.__class__")=some true
def xb {Q:Option Value->Shared->Prop}(X:K.In s.heap)(I:W.InstAt s.heap x ox C odo)(c:bR K C)(z:tW K C)(hfo:W.findObj K C odo "__class__"=some (.bind (.builtin "getset_descriptor.__get__") (.builtin "object.__class__")))
  (h:Q (some (.ref C)) { s with toks:=s.toks+1 }):wpAny (model prog w) A (getAttr? (.ref x) "__class__") Q E s:=by
 obtain⟨hp,g,d,t,os⟩:=s;have L0:=I.type (M:=model prog w);have L1:=looks_findIn (M:=model prog w) X c.ga;have L2':=looks_findIn (M:=model prog w) X c.gn;have L3:=looks_find (M:=model prog w) X I hfo;have L4:Looks (model prog w) hp (isInstance (.ref x) (.type "BaseException")) true:=I.type.andThen (looks_mroIn X (c.sub (by decide+kernel)));unfold getAttr? getAttrBy? getAttrBy;refine ad (wpAny_mkText (ad (wpAny_attempt (bd (ad (L0.at (ad (L1.at ?_))))))));have e1:(Value.builtin "BaseException.__getattribute__" ==Value.builtin "object.__getattribute__")=false:=by decide+kernel
 dsimp only;rw[e1,Bool.and_false];show wpAny _ _ (getAttrByItsOwn _ _ _ _ _ _) _ _ _;unfold getAttrByItsOwn hookBefore;refine ad (L2'.at ?_);refine ad (wpAny_attempt (bd ?_));unfold callGetattribute;show wpAny _ _ (boundAndCalled _ _ _) _ _ _;unfold boundAndCalled;rw[PySem.F.attr_ValueError.ga.bind];refine ad (am (wpAny_call (codeAny_call_builtin PySem.F.attr_ValueError.ga.plain PySem.F.entry_bexc_ga ?_)));refine @check_slot (model prog w) _ _ _ "BaseException.__getattribute__" "BaseException" "__getattribute__" (.ref x) [.str "__class__" t] [] _ ml jB L4 (PySem.F.args_bexc_ga (.ref x) (.str "__class__" t)) ?_;unfold Builtin.«object.__getattribute__»;refine ad (am (ad (am (ad (L0.at (ad (L3.at ?_)))))));show wpAny _ _ (holding [_] (call _ [_,.ref x,.ref C]) >>= ret) _ _ _;refine ad (bd (wpAny_call (class_get (s:=⟨hp,g,d,t+1,os⟩) (ox:=ox) (od:=odo) X I (c.sub (by decide+kernel)) ?_)));refine am ?_;show wpAny _ _ (handedOut (.ref C)) _ _ _;exact handed_on rfl (am h)
def uc (c:bR K C)(z:tW K C):W.findObj K C odo "__class__"=some (.bind (.builtin "getset_descriptor.__get__") (.builtin "object.__class__")):=by
 obtain⟨cd,hc,_⟩:=W.any_some c.hd;unfold W.findObj;rw[hc,Option.bind_some,z.ha,Option.bind_some];simp[z.hn,z.htk]
def lI (c:bR K C)(z:tW K C):W.KitX K (.ref x) (.ref C) (λh=>W.InstAt h x ox C odo) where
 ty:=λ_ _ _ I=>I.type
 it:=λ_ _ X _=>by
  obtain⟨cdD,hcD,_⟩:=W.any_some c.hd;unfold W.clsIn at hcD
  split at hcD
  .rename_i c' d' cd' sl' ho;intro A' Q' E' s' k q;unfold isType loadHead;exact ad (wpAny_loadPart (k _ _ (X _ _ ho)) (am q))
  .cases hcD
 ne:=λh tp dd its n sl X htp=>by
  obtain⟨cdD,hcD,_⟩:=W.any_some c.hd;refine Bool.eq_false_iff.mpr λq=>?_
  have e:C=tp:=Value.ref.inj (beq_iff_eq.mp q);subst e;unfold W.clsIn at hcD
  split at hcD
  .rename_i c' d' cd' sl' ho;have z:=(X _ _ ho).symm.trans htp;cases z
  .cases hcD
 ca:=λX I k=>xb X I c z (uc c z) k
end
section
variable {X:Cx}{Y:GD}{U:St}{H:Hp}{s:Shared}{a C:Addr}{dx:Option Addr}{fs:List (Str×V)}{fr:Bool}
def mz (I:Inv X Y U H s)(e:H a=some (.exc C dx fs fr)):∃ ox odo,W.InstAt s.heap a ox C odo:=by
 obtain⟨⟨vs,ho,_⟩,z⟩:=id (I.hok a _ e);rcases z with⟨rfl,_⟩|⟨d,rfl,_,_,_,mA,⟨od,es,ep,hod,_⟩,_⟩
 .exact⟨_,none,ho,rfl,rfl,True.intro⟩
 .exact⟨_,some od,ho,rfl,rfl,hod⟩
def vh {E:GC}{Q:GC}{cv:Value}{b:Bool}(I:Inv X Y U H s)(e:H a=some (.exc C dx fs fr))(c:bR X.K C)(z:tW X.K C)(k:W.kitOne X.K (.ref C) cv=some b)
  (h:∀ tk,Q (.bool b) { s with toks:=tk }):wpAny (model X.prog X.w) A (call (.builtin "isinstance") [.ref a,cv]) Q E s:=by
 obtain⟨ox,odo,J⟩:=mz I e;exact W.kia_one (lI (ox:=ox) (odo:=odo) c z) I.bp J k (λz=>nomatch z) h
end
end L2
namespace L2
open PySem PySem.Spec PySem.W PyProof.Rows
variable {dx:Option Addr}
section
variable {X:Cx}{f:Str}{o value ex:Expr}{ta tv te:TE}{pos pos':Pos}{E:St->XK}
def oE {h:Heap}{a:Addr}{C:Addr}{vs:Array Value}{M:Model}(ho:h.get? a=some { cls:=.ref C,dict:=dx,data:=.fields vs }):W.Looks M h (isType (.ref a)) false:=by
 intro A Q E s k q;unfold isType loadHead;exact ad (wpAny_loadPart (k _ _ ho) (am q))
abbrev zu (K:W.Frag)(E:St->XK)(te:TE):TS:=λD U H=>te U H λv H1=>∃ a C dx fs,v=.ref a/\H1 a=some (.exc C dx fs true)/\bR K C/\E U a (upd H1 a (.exc C dx fs false))
def uP (hx:B3 X E)(hc:X.calm=true)(he:PE X ex te):PS X (.Raise (some ex) none pos) (zu X.K E te):=by
 intro Y s U H D I h;rw[arm_exec_Raise];simp only[evalOpt,Option.map];refine ad (wpAny_standAt ?_);unfold raiseStmt;refine ad (ad (aB (he Y s U H _ I h) λu s1 ⟨y,H1,I1,ry,a,C,dx,fs,ey,ea,c,q⟩=>ad (wpAny_standAt (am ?_))));subst ey;obtain rfl:u=Value.ref a:=ry;obtain⟨⟨vs,ho,hsz,h1⟩,z⟩:=id (I1.hok a _ ea);have h1':=h1 rfl;have hq:X.xe (.ref a) s1:=by
  have J:Inv X [] U (upd H1 a (.exc C dx fs false)) s1:=by
   have J1:=I1.tM.write (x:=a) (e:=a) (o:=.exc C dx fs false) (t':=s1.toks) (h':=s1.heap) (by rw[ea];exact True.intro) (.inl rfl) (λ_ _ _ q=>q) ⟨_,ho⟩ ?_
   .exact J1
   .refine⟨⟨vs,ho,hsz,λy=>by cases y⟩,?_⟩;rcases z with z|⟨d,ed,d1,z1,ne,r⟩
    .exact .inl z
    .exact .inr ⟨d,ed,by rw[ah ne];exact d1,z1,ne,r⟩
  exact hx U _ s1 a C dx fs J (.inl ⟨_,vs,ho,rfl,h1'⟩) ak q
 obtain⟨hp,g,d,tk,os⟩:=s1;have L0:Looks (model X.prog X.w) hp (typeOf (.ref a)) (.ref C):=(Looks.ld ho).andThen .now;have L1:Looks (model X.prog X.w) hp (isType (.ref a)) false:=oE ho;have L2':Looks (model X.prog X.w) hp (isInstance (.ref a) (.type "BaseException")) true:=L0.andThen (looks_mroIn I1.bp (c.sub (by decide+kernel)));have L5:Looks (model X.prog X.w) hp (typeOf (.ref C)) (.type "type"):=looks_typeIn I1.bp c.mt;have tt:(Value.type "type" ==Value.type "type")=true:=by decide
 repeat(first|simp only[Bool.false_eq_true,if_false,if_true,tt]|lk)
 rw[h1'];refine am ?_;rw[if_neg (by decide)];exact am (wpAny_raiseNew_none (I1.ok.hd hc) hq)
end
@[reducible]def Cx.aW (X:Cx) (e:Value):Cx:={ X with A:=X.A.mark (some e),calm:=false,xe:=λ_ _=>False }
variable {xe:GC}{ps:GD}{D:Ends}
section
variable {X:Cx}{Y:GD}{U:St}{H:Hp}{s:Shared}
def Cx.Ok.aW (ok:X.Ok)(e:Value):(X.aW e).Ok:=
 ⟨ok.mod,ok.kind,ok.glob,ok.blt,ok.above,ok.inj,ok.has,ok.cab,(λz=>by cases z),ok.frames,ok.stk,ok.exf,ok.bs,ok.bsz,ok.noex,ok.exfs,ok.gN,ok.frf⟩
def Inv.aW (I:Inv X Y U H s)(e:Value):Inv (X.aW e) Y U H s:=⟨I.ok.aW e,I.os,I.bare,I.base,I.loc,I.cell,I.free,I.freeC,I.pin,I.hok,I.len⟩
def Inv.gU {e:Value}(ok:X.Ok)(I:Inv (X.aW e) Y U H s):Inv X Y U H s:=⟨ok,I.os,I.bare,I.base,I.loc,I.cell,I.free,I.freeC,I.pin,I.hok,I.len⟩
def dA {M:Model}{A:Around}{E:GC}{Q:GB}{i:Nat}{n:Str}{pos:Pos}(I:Inv X Y U H s)(hN:X.N.Nodup)(hi:X.N[i]? =some n)(hn:X.env.scope.names.lookup n=some .local)
  (h:∀ s',Inv X Y (U.set i none) H s'->Q () s'):wpAny M A (do bindName X.env n .none;unbindBehindTheSuite X.env n pos) Q E s:=by
 have hcls:(X.env.scope.kind ==.class||(X.env.scope.kind ==.module&&X.env.locals != X.env.globals))=false:=by rw[I.ok.kind];rfl
 refine ad (wpAny_bindName (c7 I hN hi (.inl hn) (v:=.non) rfl (λs1 I1=>?_) (.inr hn)));obtain⟨m,hm,hl⟩:=I1.loc;unfold unbindBehindTheSuite;refine wpAny_onRaise ?_;unfold unbindName;refine ad (wpAny_point (ad ?_));unfold deleteName;have hk:X.env.kindOf n=some .local:=hn;have hiσ:i<U.length:=by rw[I.len];exact(ss.mp hi).1
 have hmn:(m n).isSome=true:=by
  obtain⟨u,_,l⟩:=hl i n .non hi (by rw[getElem?_set_self hiσ]) (.inl hn);rcases l with⟨_,q⟩|⟨q,_⟩
  .rw[q];rfl
  .rcases q with q|q<;>(rw[hk]at q;cases q)
 simp only[hk,hcls];rw[if_neg (by decide)];refine ad (wpAny_nsDel_keeps hm λh2 v hn2 hs2=>?_);rw[hmn];simp only[if_true,Bool.not_true,Bool.false_eq_true,if_false];refine am (wpAny_point (h { s1 with heap:=h2 } ?_));obtain⟨oL,esL,epL,hoL,_⟩:=id hm;have tX:=I1.tX;refine⟨I1.ok,I1.os,I1.bare,⟨λb o e n hb hx=>?_,λb o e n hb hx=>?_,I1.base.free,λb o e hx=>?_,I1.base.tups,I1.base.frzs,I1.base.tbls⟩,⟨_,hn2,λj y v' e1 e2 e3=>?_⟩,λy c e=>?_,I1.free,I1.freeC,λp hp=>?_,λa u ha=>?_,by rw[length_set];exact I.len⟩
 .exact(hs2.2 b (pc (nl (sK e) I1.ok.above))).trans (I1.base.keep b o e n hb hx)
 .obtain⟨sl,q⟩:=I1.base.slot b o e n hb hx;exact⟨sl,(hs2.2 b (pc (nl (sK e) I1.ok.above))).trans q⟩
 .obtain⟨o',q⟩:=I1.base.there b o e hx;exact⟨o',(hs2.2 b (pc (nl (sK e) I1.ok.above))).trans q⟩
 .have hj:j≠i:=λz=>by rw[z,getElem?_set_self hiσ]at e2;cases e2
  rw[getElem?_set_ne (Ne.symm hj)]at e2;obtain⟨u,r,q⟩:=hl j y v' e1 (by rw[getElem?_set_ne (Ne.symm hj)];exact e2) e3;refine⟨u,r,?_⟩;rcases q with⟨k,e⟩|⟨k,c,e,z⟩
  .refine .inl ⟨k,?_⟩;have ny:y≠n:=λz=>hj (iD hN e1 (z▸hi))
   show(if y=n then v else m y)=some u;rw[if_neg ny];exact e
  .exact .inr ⟨k,c,e,z.sameBut hs2 (tX y c e)⟩
 .obtain⟨w',z⟩:=I1.cell y c e;exact⟨w',z.sameBut hs2 (tX y c e)⟩
 .obtain⟨e,n,ne,nf,d⟩:=I1.pin p hp;exact⟨(hs2.2 p.1 ne).trans e,n,ne,nf,d⟩
 .refine(I1.hok a u ha).eo (λb o hb hq=>(hs2.2 b ?_).trans hq) (λ_ q=>q) λ_ _ q=>q
  rintro rfl;rcases hb with hb|hb
  .rw[<-hb,I1.free]at ha;cases ha
  .rw[I1.free]at hb;cases hb
@[reducible]def Cx.et (X:Cx) (Y:GD) (xe:GC):Cx:={ X with pn:=X.pn++Y,xe:=xe }
def Cx.Ok.et (ok:X.Ok)(Y:GD)(xe:GC):(X.et Y xe).Ok:=
 ⟨ok.mod,ok.kind,ok.glob,ok.blt,ok.above,ok.inj,ok.has,ok.cab,ok.hd,ok.frames,ok.stk,ok.exf,ok.bs,ok.bsz,ok.noex,ok.exfs,ok.gN,ok.frf⟩
def Inv.et (I:Inv X Y U H s)(xe:GC):Inv (X.et Y xe) [] U H s:=
 ⟨I.ok.et Y xe,I.os,I.bare,I.base,I.loc,I.cell,I.free,I.freeC,λp hp=>I.pin p (by simpa using hp),I.hok,I.len⟩
def Inv.ei (ok:X.Ok)(I:Inv (X.et Y xe) ps U H s):Inv X Y U H s:=
 ⟨ok,I.os,I.bare,I.base,I.loc,I.cell,I.free,I.freeC,λp hp=>I.pin p (mem_append_left _ hp),I.hok,I.len⟩
def SP.ei {f:Flow}(ok:X.Ok)(h:SP (X.et Y xe) ps D f s):SP X Y D f s:=by
 cases f with
 |next=>obtain⟨σ',H',I,q⟩:=h;exact⟨σ',H',I.ei ok,q⟩
 |brk=>obtain⟨σ',H',I,q⟩:=h;exact⟨σ',H',I.ei ok,q⟩
 |cont=>obtain⟨σ',H',I,q⟩:=h;exact⟨σ',H',I.ei ok,q⟩
 |ret u=>obtain⟨v,σ',H',I,r,q⟩:=h;exact⟨v,σ',H',I.ei ok,r,q⟩
def As {body:List Stmt}{h0:ExceptHandler}{hs:List ExceptHandler}{pos:Pos}{E':St->XK}(I:Inv X Y U H s)(hstk:X.stack=X.env::X.outer)(hfr:X.env.frame=some X.env.locals)
  (hb:∀ xe,B3 (X.et Y xe) E'->PassesOwn (model X.prog X.w) X.A X.env xe->wpAny (model X.prog X.w) X.A (execs body X.env) (SP (X.et Y xe) [] D) xe s)
  (hh:∀ (U:St) (H:Hp) (s:Shared) (e C:Addr) (dx:Option Addr) (fs:List (Str×V)) (T:Addr),Inv X Y U H s->H e=some (.exc C dx fs false)->X.s₀.heap.objs.size<=T->H T=none->(∀ p ∈ X.pn++Y,p.1≠T)->vT s.heap e T .none->E' U e H->
   wpAny (model X.prog X.w) X.A (handleBy (.ref e) X.env (h0::hs)) (SP X Y D) X.xe s):
  wpAny (model X.prog X.w) X.A (exec (.Try body (h0::hs) [] [] pos) X.env) (SP X Y D) X.xe s:=by
 refine wpAny_Try_except (wpAny_mono (hb (λu s1=>wpAny (model X.prog X.w) X.A (noteFrame u X.env) (λ_ s2=>wpAny (model X.prog X.w) X.A (setFlight u none) (λ_ s3=>wpAny (model X.prog X.w) X.A (handleBy u X.env (h0::hs)) (SP X Y D) X.xe s3) X.xe s2) X.xe s1) ?_ PassesOwn.looking) (λf s1 h1=>?_) λ_ _ z=>z)
 .intro σ' H' s' e C dx fs J sf he q;exact jx (X:=X.et Y _) J hstk hfr sf he λs2 T J2 _ hT hH hp st=>hh σ' H' s2 e C dx fs T (J2.ei I.ok) he hT hH hp st q
 .have h2:=SP.ei I.ok h1;cases f with
  |next=>exact wpAny_execs_nil h2
  |brk=>exact h2
  |cont=>exact h2
  |ret u=>exact h2
def l8 {n x:Str}{np hpos:Pos}{b0:Stmt}{aW:List Stmt}{rest:List ExceptHandler}{i:Nat}{e C Ch T:Addr}{fs:List (Str×V)}{b:Bool}(I:Inv X Y U H s)(he:H e=some (.exc C dx fs false))
  (hT:X.s₀.heap.objs.size<=T) (hH:H T=none) (hp:∀ p ∈ X.pn++Y,p.1≠T) (st:vT s.heap e T .none) (c:bR X.K C) (ch:bR X.K Ch) (hsub:W.mroIn X.K C (.ref Ch)=some b) (hg:Gl X x) (hm:X.mg x=some (.ref Ch))
  (hN:X.N.Nodup) (hi:X.N[i]? =some n) (hn:X.env.scope.names.lookup n=some .local) (hdb:(x ==("__debug__":Str))=false)
  (yes:b=true->∀ s2,Inv (X.aW (.ref e)) Y (U.set i (some (.ref e))) H s2->wpAny (model X.prog X.w) (X.A.mark (some (.ref e))) (execs (b0::aW) X.env)
   (SP (X.aW (.ref e)) Y { nx:=λσ' H'=>D.nx (σ'.set i none) H',rt:=D.rt,bk:=λσ' H'=>D.bk (σ'.set i none) H',ct:=λσ' H'=>D.ct (σ'.set i none) H' }) (λ_ _=>False) s2)
  (no:b=false->wpAny (model X.prog X.w) X.A (handleBy (.ref e) X.env rest) (SP X Y D) X.xe s):
  wpAny (model X.prog X.w) X.A (handleBy (.ref e) X.env (.ExceptHandler (some (.Name x np)) (some n) (b0::aW) hpos::rest)) (SP X Y D) X.xe s:=by
 have I':=I.aW (.ref e);refine wpAny_handleBy_cons (codeAny_handlers_test (aY (X:=X.aW (.ref e)) I' hg hm ?_ hdb)) (by intro q;cases q);obtain⟨⟨vs,ho,hsz,h1⟩,z⟩:=id (I.hok e _ he);have L0:Looks (model X.prog X.w) s.heap (typeOf (.ref e)) (.ref C):=(Looks.ld ho).andThen .now;have L1:Looks (model X.prog X.w) s.heap (typeOf (.ref Ch)) (.type "type"):=looks_typeIn I.bp ch.mt;have L2':Looks (model X.prog X.w) s.heap (isInstance (.ref Ch) (.type "tuple")) false:=L1.andThen (Looks.of_pure tc_notTuple);have L3:Looks (model X.prog X.w) s.heap (isType (.ref Ch)) true:=by
  obtain⟨cd,rs,hcl,_⟩:=ch.mro;unfold W.clsIn at hcl
  split at hcl
  .rename_i ho';intro A' Q' E' s' k q;unfold isType loadHead;exact ad (wpAny_loadPart (k _ _ (I.bp _ _ ho')) (am q))
  .cases hcl
 have L4:Looks (model X.prog X.w) s.heap (isSubtype (.ref Ch) (.type "BaseException")) true:=looks_mroIn I.bp (ch.sub (by decide+kernel));have L5:Looks (model X.prog X.w) s.heap (isSubtype (.ref C) (.ref Ch)) b:=looks_mroIn I.bp hsub;have L6:Looks (model X.prog X.w) s.heap (isExcClass (.ref Ch)) true:=by
  unfold isExcClass;exact L3.andThen L4
 unfold excMatches;refine ad (L2'.here ?_);rw[if_neg (by decide)];refine ad (am ?_);simp only[forIn_cons,forIn_nil];refine ad (ad (ad (L6.here ?_)));rw[if_neg (by decide)];refine am ?_;refine am ?_;refine ad (L0.here ?_);refine ad (ad (ad (L5.here ?_)));cases b with
 |false=>
  rw[if_neg (by decide)];refine am ?_;refine am ?_;refine am ?_;exact no rfl
 |true=>
  rw[if_pos rfl];refine am ?_;refine am ?_;refine am ?_;refine codeAny_handlers_suite_as (pq st λh2 om oth _ th2 _=>?_);have I2:Inv X Y U H { s with heap:=h2 }:=by
   refine Inv.turned (it:=T) (h':=h2) (t':=s.toks) I (λb o hb hq=>(oth b hb).trans hq) hH ?_ (.inr hT) (λy cc hc z=>?_) hp
   .intro z;obtain⟨m,⟨o,es,ep,ho',hd,_⟩,_⟩:=I.loc;obtain⟨_,_,oT,ts,_,_,_,_,hT2,hd2,_⟩:=st;rw[z,ho']at hT2;cases hT2;rw[hd]at hd2;cases hd2
   .obtain⟨v,o,ho',hd⟩:=I.cell y cc hc;obtain⟨_,_,oT,ts,_,_,_,_,hT2,hd2,_⟩:=st;rw[<-z,ho']at hT2;cases hT2;rw[hd]at hd2;cases hd2
  refine c7 (X:=X.aW (.ref e)) (I2.aW (.ref e)) hN hi (.inl hn) (v:=.ref e) rfl (λs3 I3=>?_) (.inr hn);refine wpAny_mono (yes rfl s3 I3) (λf s4 h4=>?_) λ_ _ z=>z.elim
  cases f with
  |next=>
   obtain⟨σ',H',J,q⟩:=h4;exact dA (J.gU I.ok) hN hi hn λs5 J5=>⟨_,H',J5,q⟩
  |brk=>
   obtain⟨σ',H',J,q⟩:=h4;exact dA (J.gU I.ok) hN hi hn λs5 J5=>⟨_,H',J5,q⟩
  |cont=>
   obtain⟨σ',H',J,q⟩:=h4;exact dA (J.gU I.ok) hN hi hn λs5 J5=>⟨_,H',J5,q⟩
  |ret u=>
   obtain⟨v,σ',H',J,r,q⟩:=h4;exact dA (J.gU I.ok) hN hi hn λs5 J5=>⟨v,_,H',J5,r,q⟩
end
end L2
namespace L2
open PySem PySem.Spec PyProof.Rows
def sV:bootBuiltins "isinstance"=some (.builtin "isinstance"):=by decide+kernel
section
variable {X:Cx}
abbrev CN (K:W.Frag):V->V->Hp->VK->Prop:=λx y H Q=>∃ p xs i v,x=.ref p/\y=.int i/\aF K H p xs/\0<=i/\xs[i.toNat]? =some v/\Q v H
def uQ:Bu X (CN X.K):=by
 intro Y s U H o i ov iv Q I ro ri h;obtain⟨p,xs,k,z,rfl,rfl,hq,h0,he,q⟩:=h;cases ro;obtain⟨t,rfl⟩:=ri;obtain⟨its,r,pl,hz⟩:=I.list hq;obtain⟨w,ew,rw'⟩:=r.get he;have hl:k.toNat<xs.length:=(ss.mp he).1;have hn:=dZ;exact wpAny_getItem_list pl.isList h0 nofun (by simpa using ew) ⟨z,H,I,rw',q⟩
def hE {xs:List V}{us:List Value}(r:Vals xs us){j:Nat}(h:j<us.toArray.size):∃ x,xs[j]? =some x/\RelV x (us.toArray[j]):=by
 have hl:=r.length;have hj:j<us.length:=by simpa using h
 have e:xs[j]? =some xs[j]:=lf nofun;obtain⟨u,h1,h2⟩:=r.get e;refine⟨_,e,?_⟩;rw[lf hj]at h1;cases h1;simpa using h2
end
section
variable {U:St}{H:Hp}{Q:VK}{D:Ends}{K:W.Frag}
abbrev qb (x:V)(H:Hp)(R:Bool->Hp->Prop):Prop:=∃ k,x=.bl k/\R k H
def cZ {α:Type}{xs:List α}{i:Int}(h0:0<=i)(h1:i<xs.length):∃ v,gX xs i=some v/\v ∈ xs:=by
 obtain⟨n,rfl⟩:=Int.eq_ofNat_of_zero_le h0;have hn:n<xs.length:=by omega
 exact⟨xs[n],g8 (lf hn),List.getElem_mem hn⟩
end
section
variable {K:W.Frag}{g:TG}{tb:TS}{D:Ends}{U:St}{H:Hp}{tl:TE}{ta:TA}
end
def fits {n:Nat}(h:n<=1000):n<=bn:=Nat.le_of_lt (bI h)
section
variable {X:Cx}{H:Hp}{Q:VK}
end
section
variable {K:W.Frag}
end
section
variable {H H':Hp}{h c p:Addr}{m n:Int}{o:HO}
end
def Dv (ns:List Int)(h:ns.length<=63):ft (ns.map V.int) none (some 63)=ns.map V.int:=by
 have e1:HT.bb (ns.map V.int).length 0 none=0:=rfl;have e2:HT.bb (ns.map V.int).length (ns.map V.int).length (some 63)=(ns.map V.int).length:=by
  show(if(63:Int)<0 then((63:Int)+((ns.map V.int).length:Int)).toNat else min (63:Int).toNat (ns.map V.int).length)=(ns.map V.int).length;rw[if_neg (by decide),ce];show min 63 ns.length=ns.length
  omega
 unfold ft;rw[e1,e2,drop_zero,Nat.sub_zero,List.take_length]
variable {ns:List Int}
def o5 {i:Nat}{x:V}(h:(ns.map V.int)[i]? =some x):∃ z,x=V.int z:=by
 rw[io]at h;cases e:ns[i]? with
 |none=>rw[e]at h;cases h
 |some z=>rw[e]at h;exact⟨z,(Option.some.inj h).symm⟩
def uu {i:Int}(h0:0<=i)(h1:i<ns.length):∃ z,gX (ns.map V.int) i=some (.int z):=by
 obtain⟨v,a,m⟩:=cZ (xs:=ns.map V.int) h0 (by rw[ce];exact h1);obtain⟨z,_,rfl⟩:=List.mem_map.mp m;exact⟨z,a⟩
section
variable {H:Hp}{Q:VK}
end
section
variable {X:Cx}
end
variable {A:Around}{E:GC}{s:Shared}
def yH {α:Type}{t:Sem α}{Q Q':α->Shared->Prop}{M:Model}(h:wpAny M A t Q (λ_ _=>False) s) (hQ:∀ a s,Q a s->Q' a s):wpAny M A t Q' E s:=wpAny_mono h hQ λ_ _ x=>x.elim
abbrev dQ (X:Cx)(scope:Scope)(cl:List (Str×Addr))(N:List Str)(s:Shared)(H:Hp)(fp:List Addr):Cx:=
 { X with N:=N,s₀:=s,H₀:=H,env:=compEnvC scope cl s.heap.objs.size X.env,outer:=X.stack,stack:=X.stack,ex:=fp,fn:=λ_=>false,pn:=[],xe:=λ_ _=>False }
structure aU (X:Cx) (scope:Scope) (cl:List (Str×Addr)) (xs:List Str) (fr:List Str) (sel:List Nat):Prop where
 clos:closureFor scope X.env=pure cl
 sub:∀ y c,cl.lookup y=some c->X.env.cells.lookup y=some c
 has:∀ y,((relabel scope X.env).names.lookup y=some .cell\/(relabel scope X.env).names.lookup y=some .free)->∃ c,cl.lookup y=some c
 kind:scope.kind=.function
 nocell:∀ y ∈ scope.names,y.2≠.cell
 names:∀ y ∈ scope.names,y.2=.local->scope.names.lookup y.1=some .local
 own:∀ x ∈ xs,scope.names.lookup x=some .local
 len:sel.length=fr.length
 out:∀ (j:Nat) (y:Str),fr[j]? =some y->∃ i,sel[j]? =some i/\X.N[i]? =some y/\X.env.scope.names.lookup y=some .cell/\(relabel scope X.env).names.lookup y=some .cell
 nd:(xs++fr).Nodup
abbrev c6 (U:St)(sel:List Nat):St:=sel.map λi=>U.getD i none
abbrev LC (te:TE)(J:It)(σ₀:St)(H1:Hp)(Q:VK):Prop:=∀ D,H1 D=none->∃ W:Nat->Nat->St->Hp->Prop,(∃ m,W 0 m σ₀ (upd H1 D (.lst [])))/\∀ i m σ' H',W i m σ' H'->
 (J.stop i H'/\Q (.ref D) H')\/(J.go i H'/\∃ N:St->Hp->Prop,(∀ σ2 H2,N σ2 H2->∃ m',m'<m/\W (i+1) m' σ2 H2)/\
  ∀ x H'',J.yld i H' x H''->te (σ'.set 0 (some x)) H'' λv H3=>∃ zs,H3 D=some (.lst zs)/\zs.length<bn/\N (σ'.set 0 (some x)) (upd H3 D (.lst (zs++[v]))))
abbrev gate (env:Env):List Expr->Sem Bool
 | []=>pure true
 |c::_=>isTrue c env (eval c env)
variable {ifs:List Expr}{scope:Scope}{pos:Pos}
def pK {M:Model}{elt target iter:Expr}{it acc:Value}{env:Env}{Q:PySem.Fin->Shared->Prop}(hi:ifs.length<=1)
  (h:wpAny M A (pyNext it) (λr s1=>match r with
   |none=>Q (.done .next) s1
   |some v=>wpAny M A (letOwnedTupleGo target it v) (λ_ s2=>wpAny M A (assign target env v) (λ_ s3=>wpAny M A (gate env ifs) (λok s4=>
    (ok=true->wpAny M A (eval elt env) (λx s5=>wpAny M A (call (.builtin "list.append") [acc,x]) (λ_ s6=>wpAny M A (again (.compLoop (.ListComp elt [⟨target,iter,ifs,0⟩] scope pos) 0 it acc env)) Q E s6) E s5) E s4)/\
    (ok=false->wpAny M A (again (.compLoop (.ListComp elt [⟨target,iter,ifs,0⟩] scope pos) 0 it acc env)) Q E s4)) E s3) E s2) E s1) E s):
  wpAny M A (compTurn (.ListComp elt [⟨target,iter,ifs,0⟩] scope pos) 0 it acc env) Q E s:=by
 have key:∀ {g:Sem Bool}{K:Sem PySem.Fin}{s:Shared},wpAny M A g (λok s4=>
    (ok=true->wpAny M A (eval elt env) (λx s5=>wpAny M A (call (.builtin "list.append") [acc,x]) (λ_ s6=>wpAny M A K Q E s6) E s5) E s4)/\
    (ok=false->wpAny M A K Q E s4)) E s->wpAny M A (g >>= λok=>if ok=true then(eval elt env >>= λx=>call (.builtin "list.append") [acc,x] >>= λ_=>pure ()) >>= λ_=>K else K) Q E s:=λ{g K s} h=>by
  refine ad (wpAny_mono h (λok s4 h4=>?_) λ_ _ e=>e);cases ok with
  |false=>exact h4.2 rfl
  |true=>exact ad (ad (wpAny_mono (h4.1 rfl) (λx s5 h5=>ad (wpAny_mono h5 (λ_ s6 h6=>am h6) λ_ _ e=>e)) λ_ _ e=>e))
 match ifs,hi with
 | [],_=>
  rw[compTurn_list1];refine ad (wpAny_standAt (ad (wpAny_mono h (λr s1 h1=>?_) λ_ _ e=>e)));cases r with
  |none=>exact am h1
  |some v=>
   refine ad (wpAny_mono h1 (λ_ s2 h2=>ad (wpAny_mono h2 (λ_ s3 h3=>?_) λ_ _ e=>e)) λ_ _ e=>e);exact key (g:=pure true) h3
 | [c],_=>
  unfold compTurn;simp only[List.getElem?_cons_zero,List.getElem?_cons_succ,List.getElem?_nil];dsimp only[forIn,List.forIn',List.forIn'.loop,forIn'];rw[if_neg (by decide),if_neg (by decide)];refine ad (wpAny_standAt (ad (wpAny_mono h (λr s1 h1=>?_) λ_ _ e=>e)));cases r with
  |none=>exact am h1
  |some v=>
   refine ad (wpAny_mono h1 (λ_ s2 h2=>ad (wpAny_mono h2 (λ_ s3 h3=>?_) λ_ _ e=>e)) λ_ _ e=>e);refine key ?_;rw[if_pos rfl];refine ad (ad (wpAny_mono h3 (λok s4 h4=>am ?_) λ_ _ e=>e));exact am h4
abbrev LCg (tg:TG)(tc:TT)(te:TE)(J:It)(σ₀:St)(H1:Hp)(Q:VK):Prop:=∀ D,H1 D=none->∃ W:Nat->Nat->St->Hp->Prop,(∃ m,W 0 m σ₀ (upd H1 D (.lst [])))/\∀ i m σ' H',W i m σ' H'->
 (J.stop i H'/\Q (.ref D) H')\/(J.go i H'/\∃ N:St->Hp->Prop,(∀ σ2 H2,N σ2 H2->∃ m',m'<m/\W (i+1) m' σ2 H2)/\
  ∀ x H'',J.yld i H' x H''->tg x σ' H'' λσ2 H2=>tc σ2 H2 λb H3=>(b=true->te σ2 H3 λv H4=>∃ zs,H4 D=some (.lst zs)/\zs.length<bn/\N σ2 (upd H4 D (.lst (zs++[v]))))/\(b=false->N σ2 H3))
abbrev yes:TT:=λ_ H Q=>Q true H
variable {te:TE}
def LC.g {J:It}{σ₀:St}{H1:Hp}{Q:VK}(h:LC te J σ₀ H1 Q):LCg (eP 0) yes te J σ₀ H1 Q:=λD hD=>by
 obtain⟨W,w0,turn⟩:=h D hD;refine⟨W,w0,λi m σ' H' w=>?_⟩;rcases turn i m σ' H' w with z|⟨go,N,hN,step⟩
 .exact .inl z
 .exact .inr ⟨go,N,hN,λx H'' y=>⟨λ_=>step x H'' y,λe=>nomatch e⟩⟩
abbrev DZ (X:Cx)(ifs:List Expr)(tc:TT):Prop:=ifs.length<=1/\∀ (Y:GD) (s:Shared) (U:St) (H:Hp) (Q:Bool->Hp->Prop),Inv X Y U H s->tc U H Q->wpAny (model X.prog X.w) X.A (gate X.env ifs) (TP X Y U Q) X.xe s
variable {X:Cx}
def gS:DZ X [] yes:=⟨Nat.zero_le _,λY s U H Q I q=>am ⟨H,I,q⟩⟩
def pX {c:Expr}{tc:TT}(h:PT X c tc):DZ X [c] tc:=⟨pi _,h⟩
abbrev lr (xs:List Str):St:=xs.map λ_=>none
abbrev Fd (wi:TI)(te:TE)(sel:List Nat):TE:=λU H Q=>wi U H λJ H1=>LC te J (none::c6 U sel) H1 Q
abbrev Dx (wi:TI)(tg:TG)(tc:TT)(te:TE)(xs:List Str)(sel:List Nat):TE:=λU H Q=>wi U H λJ H1=>LCg tg tc te J (lr xs++c6 U sel) H1 Q
variable {cl:List (Str×Addr)}{xs fr:List Str}{sel:List Nat}{fp:List Addr}
section
variable {X:Cx}
def Un.sameBut {fs ex:List Addr}{H H':Hp}{h h1 h2:Heap}{C:Addr}(u:Un fs ex H H' h h1)(hs:Heap.SameBut C h1 h2)(hC:h.objs.size<=C):Un fs ex H H' h h2:=by
 have ne:∀ b o,h.get? b=some o->b≠C:=λb o e=>pc (nl (sK e) hC)
 refine⟨λb o e n hb hx=>(hs.2 b (ne b o e)).trans (u.keep b o e n hb hx),λb o e n hb hx=>?_,u.free,λb o e hx=>?_,u.tups,u.frzs,u.tbls⟩
 .obtain⟨sl,q⟩:=u.slot b o e n hb hx;exact⟨sl,(hs.2 b (ne b o e)).trans q⟩
 .obtain⟨o',q⟩:=u.there b o e hx;exact⟨o',(hs.2 b (ne b o e)).trans q⟩
def md {Y:GD}{U:St}{H:Hp}{h':Heap}{tk:Nat}{m':GF}
  (S:aU X scope cl xs fr sel) (I:Inv X Y U H s) (f2:∀ b ∈ fp,gO X Y H b) (fo:∀ b ∈ fp,b<s.heap.objs.size) (hns:h'.Ns s.heap.objs.size m') (keep:∀ b o,s.heap.get? b=some o->h'.get? b=some o):
  Inv (dQ X scope cl (xs++fr) s H fp) (X.pn++Y) (lr xs++c6 U sel) H { s with heap:=h',toks:=tk }:=by
 have stk:∀ b,b≠X.env.locals->b ∉ X.fs->b ∉ kA X.stack:=λb h1 h2 hb=>(lv.mp (I.f7 b hb)).elim h1 h2
 refine⟨⟨I.ok.mod,S.kind,I.ok.glob,I.ok.blt,pi _,λy z c h1 h2=>I.ok.inj y z c (S.sub y c h1) (S.sub z c h2),λy hy=>S.has y hy,(λy c h=>nomatch h),I.ok.hd,I.ok.frames,.inl rfl,λb hb=>⟨pc (fo b hb),λy c h=>(f2 b hb).2.2.2.2.1 y c (S.sub y c h)⟩,I.bs,
  Nat.le_trans I.ok.bsz I.sz,λb o e hb=>?_,λb hb=>stk b (f2 b hb).2.1 (f2 b hb).2.2.1,I.stack,I.j4⟩,
  rfl,I.bare,Un.kept keep,⟨m',hns,λi y v e1 e2 e3=>?_⟩,λy c h=>?_,I.hok.fresh (pi _),λy c h=>I.freeC y c (S.sub y c h),λp hp=>?_,I.hok.kept keep,?_⟩
 .rcases(f2 b hb).2.2.2.1 with z|z
  .exact I.ok.noex b o e z
  .exact absurd (nl (nl (sK e) I.ok.bsz) z) (Nat.lt_irrefl _)
 .have hln:(lr xs).length=xs.length:=ce ..
  by_cases hlt:i<xs.length
  .rw[getElem?_append_left (by rw[hln];exact hlt)]at e2;unfold lr at e2;rw[io,lf hlt]at e2;cases e2
  .obtain⟨j,rfl⟩:∃ j,i=xs.length+j:=⟨i-xs.length,by omega⟩;have e1':fr[j]? =some y:=by
    have e1:(xs++fr)[xs.length+j]? =some y:=e1;rw[getElem?_append_right nofun,show xs.length+j-xs.length=j by omega]at e1;exact e1
   obtain⟨i,hi,hN,k1,k2⟩:=S.out j y e1';have e2':(c6 U sel)[j]? =some (some v):=by
    rw[getElem?_append_right (by rw[hln];omega),hln,show xs.length+j-xs.length=j by omega]at e2;exact e2
   have e4:U[i]? =some (some v):=by
    unfold c6 at e2';rw[io,hi]at e2';have e5:U.getD i none=some v:=Option.some.inj e2';rw[List.getD_eq_getElem?_getD]at e5;cases e6:U[i]? with
    |none=>rw[e6]at e5;cases e5
    |some z=>rw[e6]at e5;exact congrArg some e5
   obtain⟨m,hn,hl⟩:=I.loc;obtain⟨u,r,l⟩:=hl i y v hN e4 (.inr (.inl k1));refine⟨u,r,.inr ⟨.inl k2,?_⟩⟩;rcases l with⟨hk,_⟩|⟨_,c,hc,o,ho,hd⟩
   .have hk':X.env.scope.names.lookup y=some .local:=hk;rw[k1]at hk';cases hk'
   .obtain⟨c',hc'⟩:=S.has y (.inl k2);have:=(S.sub y c' hc').symm.trans hc;cases this;exact⟨c,hc',o,keep c o ho,hd⟩
 .obtain⟨v,o,ho,hd⟩:=I.cell y c (S.sub y c h);exact⟨v,o,keep c o ho,hd⟩
 .obtain⟨e,n,ne,nf,d⟩:=I.pin p (by simpa[dQ] using hp);exact⟨keep p.1 p.2 e,n,pc (sK e),stk p.1 ne nf,d⟩
 .show(lr xs++c6 U sel).length=(xs++fr).length;unfold c6 lr;simp[S.len]
def fT {elt iter tgt:Expr}{wi:TI}{tg:TG}{tc:TT}(hc:X.calm=true)(S:aU X scope cl xs fr sel)(hi:PI X tgt iter wi)
  (hg:∀ (s:Shared) (H:Hp) (fp:List Addr),PG (dQ X scope cl (xs++fr) s H fp) tgt tg) (ht:∀ (s:Shared) (H:Hp) (fp:List Addr),DZ (dQ X scope cl (xs++fr) s H fp) ifs tc)
  (he:∀ (s:Shared) (H:Hp) (fp:List Addr),PE (dQ X scope cl (xs++fr) s H fp) elt te) (hs:∀ x,foldedSetIterable iter X.env x=pure x):PE X (.ListComp elt [⟨tgt,iter,ifs,0⟩] scope pos) (Dx wi tg tc te xs sel):=by
 intro Y s U H Q I h;rw[eval_ListComp];refine wpAny_comprehension_free (use:=none) rfl hs S.clos S.kind S.names ?_;refine aB (hi Y s U H _ I h) λv s1 h1=>aB h1 λitv s2 h2=>?_
 obtain⟨it,fp,tn,J,H2,e,I2,T,om,f2,h2⟩:=h2;subst e;refine wpAny_newObj_type ?_;have hD:H2 s2.heap.objs.size=none:=I2.hok.fresh (pi _);have I3:Inv X Y U (upd H2 s2.heap.objs.size (.lst [])) { s2 with heap:=s2.heap.push { cls:=.type "list",dict:=none,data:=.seq ([]:List Value).toArray } }:=
  I2.laid (t':=s2.toks) (λb u e=>sw _ e) (pi _) ⟨Nat.zero_le _,[],0,.nil,tz _ rfl⟩
 have fo2:∀ b ∈ fp,b<s2.heap.objs.size:=λb hb=>by
  obtain⟨o,ho,_⟩:=T.obj _ _ om b hb;exact sK ho
 have f3:∀ b ∈ fp,gO X Y (upd H2 s2.heap.objs.size (.lst [])) b:=λb hb=>⟨by rw[ah (pc (fo2 b hb))];exact(f2 b hb).1,(f2 b hb).2⟩
 have st3:tn 0 (s2.heap.push { cls:=.type "list",dict:=none,data:=.seq ([]:List Value).toArray }):=T.keep _ _ _ om λb hb o e=>sw _ e
 have fo3:∀ b ∈ fp,b<(s2.heap.push { cls:=.type "list",dict:=none,data:=.seq ([]:List Value).toArray }).objs.size:=λb hb=>by
  rw[Heap.size_push];exact Nat.lt_succ_of_lt (fo2 b hb)
 obtain⟨W,⟨m0,w0⟩,turn⟩:=h2 _ hD;generalize s2.heap.objs.size=D at*;generalize hs3:({ s2 with heap:=s2.heap.push { cls:=.type "list",dict:=none,data:=.seq ([]:List Value).toArray } }:Shared)=s3 at*;have st3':tn 0 s3.heap:=by rw[<-hs3];exact st3
 have fo3':∀ b ∈ fp,b<s3.heap.objs.size:=by rw[<-hs3];exact fo3
 refine wpAny_newFunctionEnv S.nocell (by intro y hy;simp at hy) (λh' hns hsb=>?_) S.kind;have keep:∀ b o,s3.heap.get? b=some o->h'.get? b=some o:=λb o e=>(hsb.2 b (pc (sK e))).trans (sw _ e)
 have I4:=md (tk:=s3.toks+([]:List (Str×Value)).length) S I3 f3 fo3' hns keep;have st4:tn 0 h':=T.keep _ _ _ st3' λb hb o e=>keep b o e
 have stat:∀ {H':Hp},(∀ b ∈ fp,H' b=none)->∀ b ∈ fp,gO (dQ X scope cl (xs++fr) s3 (upd H2 D (.lst [])) fp) (X.pn++Y) H' b:=λ{H'} hn b hb=>
  ⟨hn b hb,pc (fo3' b hb),λz=>(lv.mp (I3.f7 b z)).elim (f3 b hb).2.1 (f3 b hb).2.2.1,.inl hb,λy c hy=>(f3 b hb).2.2.2.2.1 y c (S.sub y c hy),λp hp=>(f3 b hb).2.2.2.2.2 p (by simpa[dQ] using hp)⟩
 have loop:codeAny (model X.prog X.w) X.A (.compLoop (.ListComp elt [⟨tgt,iter,ifs,0⟩] scope pos) 0 (.ref it) (.ref D) (compEnvC scope cl s3.heap.objs.size X.env))
   (compPost (model X.prog X.w) X.A X.xe none (EP X Y U Q) (.ref D) s3.heap.objs.size) { s3 with heap:=h',toks:=s3.toks+([]:List (Str×Value)).length }:=by
  refine codeAny_loop rfl (λn s'=>∃ i σ' H',Inv (dQ X scope cl (xs++fr) s3 (upd H2 D (.lst [])) fp) (X.pn++Y) σ' H' s'/\tn i s'.heap/\(∀ b ∈ fp,H' b=none)/\W i n σ' H') (λn s5 hI=>?_) m0 ⟨0,_,_,I4,st4,λb hb=>(f3 b hb).1,w0⟩;show wpAny _ _ ((compTurn (.ListComp elt [⟨tgt,iter,ifs,0⟩] scope pos) 0 (.ref it) (.ref D) (compEnvC scope cl s3.heap.objs.size X.env)).onRaise (λx=>do noteFrame x (compEnvC scope cl s3.heap.objs.size X.env);theTreesLotGoes x)) _ _ s5;refine wpAny_noted ?_;refine pK (ht s3 (upd H2 D (.lst [])) fp).1 ?_;obtain⟨i,σ5,H5,I5,st5,fr5,w5⟩:=hI;rcases turn i n σ5 H5 w5 with⟨stop,q⟩|⟨go,Nn,hN,step⟩
  .refine aB (T.done (dQ X scope cl (xs++fr) s3 (upd H2 D (.lst [])) fp) rfl rfl rfl hc i _ s5 σ5 H5 _ I5 (stat fr5) st5 stop) λr s6 ⟨hr,I6⟩=>?_
   subst hr;obtain⟨m,hn,_⟩:=I6.loc;refine⟨m,hn,λh'' hs''=>⟨.ref D,H5,I3.uD (ch:=fp) I6.os (I6.base.sameBut hs'' (pi _)) (λb ob e=>?_) I6.bare λb hb=>⟨(f3 b hb).2.2.2.1,(f3 b hb).2.1,(f3 b hb).2.2.2.2.1,(f3 b hb).2.2.2.2.2⟩,rfl,q⟩⟩;refine(I6.hok b ob e).eo (λc w' hc' q'=>(hs''.2 c ?_).trans q') (λ_ q'=>q') λ_ _ q'=>q'
   have fC:H5 s3.heap.objs.size=none:=I6.free;intro z;rcases hc' with z2|z2
   .rw[z2]at z;rw[z,fC]at e;cases e
   .rw[z,fC]at z2;cases z2
  .have fin:∀ {σ8:St}{H10:Hp}{s10:Shared},Inv (dQ X scope cl (xs++fr) s3 (upd H2 D (.lst [])) fp) (X.pn++Y) σ8 H10 s10/\tn (i+1) s10.heap/\(∀ b ∈ fp,H10 b=none)->Nn σ8 H10->∃ m',m'<n/\∃ i σ' H',Inv (dQ X scope cl (xs++fr) s3 (upd H2 D (.lst [])) fp) (X.pn++Y) σ' H' s10/\tn i s10.heap/\(∀ b ∈ fp,H' b=none)/\W i m' σ' H':=λ⟨I,t,f⟩ nn=>by
    obtain⟨m',hm,w10⟩:=hN _ _ nn;exact⟨m',hm,i+1,_,_,I,t,f,w10⟩
   refine aB (T.item (dQ X scope cl (xs++fr) s3 (upd H2 D (.lst [])) fp) rfl rfl rfl hc i _ s5 σ5 H5 _ I5 (stat fr5) st5 go) λr s6 ⟨u,hr,h6⟩=>?_
   subst hr;refine aB h6 λ_ s7 ⟨xv,H7,I7,r7,y7,st7,fr7⟩=>?_
   have I7':=I7.pinned (stat fr7) (T.obj _ _ st7);refine yH (hg s3 _ fp _ s7 σ5 H7 xv u _ I7' r7 (step xv _ y7)) λ_ s8 ⟨σ8,H8,I8,q8⟩=>?_
   refine yH ((ht s3 _ fp).2 _ s8 σ8 H8 _ I8 q8) λok s9 ⟨H9,I9,q9⟩=>?_
   have back:∀ {H10:Hp}{s10:Shared},Inv (dQ X scope cl (xs++fr) s3 (upd H2 D (.lst [])) fp) _ σ8 H10 s10->Inv (dQ X scope cl (xs++fr) s3 (upd H2 D (.lst [])) fp) (X.pn++Y) σ8 H10 s10/\tn (i+1) s10.heap/\(∀ b ∈ fp,H10 b=none):=λ{H10 s10} I10=>⟨I10.dg,T.keep _ _ _ st7 λb hb o e=>(I10.pin (b,o) (ii _ (ii _ (bg hb e)))).1,λb hb=>by
    obtain⟨o,e,d⟩:=T.obj _ _ st7 b hb;exact(I10.pin (b,o) (ii _ (ii _ (bg hb e)))).2.1⟩
   refine⟨λek=>?_,λek=>am ⟨rfl,fin (back I9) (q9.2 ek)⟩⟩;refine yH (he s3 _ fp _ s9 _ _ _ I9 (q9.1 ek)) λuv s10 ⟨vv,H10,I10,r10,zs,hz,hzl,n10⟩=>?_
   refine yH (fW (X:=dQ X scope cl (xs++fr) s3 (upd H2 D (.lst [])) fp) _ s10 _ H10 (.ref D) [vv] (.ref D) [uv] (λ_ H'=>H'=upd H10 D (.lst (zs++[vv]))) I10 rfl (.cons r10 .nil) ⟨D,zs,vv,rfl,rfl,hz,hzl,rfl⟩) λ_ s11 ⟨_,H11,I11,_,e11⟩=>?_
   subst e11;exact am ⟨rfl,fin (back I11) n10⟩
 exact codeAny_compStart_list loop (T.self _ 0 _ _ _ st4 loop)
def kr {x:Str}{px:Pos}{H:Hp}(S:aU X scope cl [x] fr sel):PG (dQ X scope cl ([x]++fr) s H fp) (.Name x px) (eP 0):=fK S.nd rfl (.inl (lookup_relabel_local (S.own x (li ..)))) (.inr (lookup_relabel_local (S.own x (li ..))))
abbrev F8 (wi:TI):TI:=λU H R=>∃ R0:It->Hp->Prop,wi U H R0/\∀ J H,R0 J H->R J H
def PI.up {tg iter:Expr}{wi:TI}(h:PI X tg iter wi):PI X tg iter (F8 wi):=λY s U H R I ⟨R0,q,m⟩=>
 aB (h Y s U H R0 I q) λv s1 h1=>wpAny_mono h1 (λitv s2 ⟨it,fp,tn,J,H',e,I,T,t0,f,r⟩=>⟨it,fp,tn,J,H',e,I,T,t0,f,m _ _ r⟩) λ_ _ e=>e
def vL {elt iter:Expr}{x:Str}{px:Pos}{wi:TI}(hc:X.calm=true)(S:aU X scope cl [x] fr sel)(hi:PI X (.Name x px) iter wi)
  (he:∀ (s:Shared) (H:Hp) (fp:List Addr),PE (dQ X scope cl (x::fr) s H fp) elt te) (hs:∀ x,foldedSetIterable iter X.env x=pure x):PE X (.ListComp elt [⟨.Name x px,iter,[],0⟩] scope pos) (Fd wi te sel):=λY s U H Q I h=>
 fT (tg:=eP 0) hc S hi.up (λs H fp=>kr S) (λ_ _ _=>gS) he hs Y s U H Q I ⟨_,h,λ_ _ q=>q.g⟩
end
section
variable {U:St}{H:Hp}{Q:VK}{te tl:TE}{ta:TA}{sel:List Nat}{σ₀ rest:St}{K:W.Frag}
end
def cG {env:Env}:∀ {names:List (Str×NameKind)}{y:Str}{k':NameKind},(names.map λ(n,k)=>if(k ==NameKind.free&&env.scope.kind ==.function&&env.kindOf n ==some .cell) then(n,NameKind.cell) else(n,k)).lookup y=some k'->∃ k,(y,k) ∈ names/\(k'=k\/(k=.free/\k'=.cell))
 | [],_,_,h=>by simp at h
 |(n,k)::r,y,k',h=>by
  rw[map_cons,lookup_cons]at h
  by_cases hc:(k ==NameKind.free&&env.scope.kind ==.function&&env.kindOf n ==some .cell)=true
  .simp only[hc,if_true]at h
   by_cases e:y=n
   .subst e;simp at h;simp at hc;exact⟨k,li,.inr ⟨hc.1.1,h.symm⟩⟩
   .rw[show(y ==n)=false from beq_eq_false_iff_ne.mpr e]at h;obtain⟨k2,m,q⟩:=cG (env:=env) h;exact⟨k2,dl _ m,q⟩
  .rw[Bool.not_eq_true]at hc;simp only[hc,Bool.false_eq_true,if_false]at h
   by_cases e:y=n
   .subst e;simp at h;exact⟨k,li,.inl h.symm⟩
   .simp only[show(y ==n)=false from beq_eq_false_iff_ne.mpr e]at h;obtain⟨k2,m,q⟩:=cG (env:=env) h;exact⟨k2,dl _ m,q⟩
section
variable {K:W.Frag}
end
section
variable {K:W.Frag}{H:Hp}
end
section
variable {U:St}{H:Hp}{Q:VK}
end
abbrev notStar:Expr->Bool
 | .Starred ..=>false
 |_=>true
variable {es:List Expr}
def ag {e:Expr}{env:Env}(h:notStar e=true):bm (e::es) env=(false,eval e env)::bm es env:=by
 cases e<;>first|rfl|cases h
def iV {e:Expr}{t:TA}(ha:PE X e te)(hr:PA X es t)(h:notStar e=true:=by rfl):PA X (e::es) (zb te t):=xP ha hr (ag h)
section
variable {X:Cx}{Y:GD}{U:St}{H:Hp}{s:Shared}{h':Heap}
def Inv.tB {t':Nat}{ch:List Addr}{a:Addr}{o:HO}(I:Inv X Y U H s)(k:∀ b u,b ∉ ch->s.heap.get? b=some u->h'.get? b=some u) (hf:∀ b ∈ ch,gO X Y H b)
  (hp:s.heap.objs.size<=a) (new:aq X.prog X.w (upd H a o) h' a o):Inv X Y U (upd H a o) { s with heap:=h',toks:=t' }:=by
 have hn:H a=none:=I.hok.fresh hp;have nch:∀ b u,H b=some u->b ∉ ch:=λb u e z=>by rw[(hf b z).1]at e;cases e
 refine I.step (g':=s.gens) (d':=s.drawn) (ch:=ch) (λb hb=>?_) (λb o _ _ hc e _=>k b o hc e) (λb o _ _ hc e _=>⟨o.slots,k b o hc e⟩) (λb o hc e n=>?_)
  (λb o hc e=>⟨o,k b o hc e⟩) (λb xs e=>?_) (λb ob u e=>?_) (λb ps e=>?_) (λm hm=>?_) (λb u e=>?_) I.bare
 .obtain⟨_,f1,_,f3,f4,f5⟩:=hf b hb;exact⟨f3,f1,f4,f5⟩
 .rw[ah (pc (nl (sK e) hp))];exact n
 .rw[ah (aG e hn)];exact e
 .rw[ah (aG e hn)];exact e
 .exact⟨#[],by rw[ah (aG e hn),e];simp⟩
 .obtain⟨o,es,ep,ho,r⟩:=hm;exact⟨o,es,ep,k _ o (λz=>(hf _ z).2.1 rfl) ho,r⟩
 .by_cases hb:b=a
  .subst hb;rw[ak]at e;cases e;exact new
  .rw[ah hb]at e;refine(I.hok b u e).eo (λc v hc q=>k c v ?_ q) (λc q=>by rw[ah (aG q hn)];exact q) λc xs q=>by rw[ah (aG q hn)];exact q
   rcases hc with rfl|hc
   .exact nch _ _ e
   .exact nch _ _ hc
end
abbrev Dr (l:Addr):It:=
 ⟨λi H=>∃ xs x,H l=some (.lst xs)/\xs[i]? =some x,λi H x H'=>∃ T y,H T=none/\x=.ref T/\H'=upd H T (.tup [.int i,y])/\∀ xs,H l=some (.lst xs)->xs[i]? =some y,λi H=>∃ xs,H l=some (.lst xs)/\xs.length<=i⟩
variable {elts:List Expr}
def rj {P:Program}{w:World}{K:W.Frag}{k:Nat}(l e it:Addr)(hei:e≠it):
  Turn P w K (.Tuple elts k pos) (Dr l) [e,it] e (λi h=>(∃ old,IsEnum h e it ((i:Nat):Int) old)/\h.IsListIter it l i) where
 mem:=by simp
 obj:=λi h st b hb=>by
  obtain⟨⟨old,he⟩,hit⟩:=st;rcases lv.mp hb with rfl|hb
  .exact⟨_,he,λv z=>by
    have z':Data.fields _=Data.cell v:=z;cases z'⟩
  .have e':b=it:=by simpa using hb
   subst e';obtain⟨o,e,c,d⟩:=hit;exact⟨o,e,λv z=>by rw[d]at z;cases z⟩
 keep:=λi h h' st k=>by
  obtain⟨⟨old,he⟩,hit⟩:=st;exact⟨⟨old,k e (by simp) _ he⟩,hit.at λo q=>k it (by simp) o q⟩
 item:=by
  intro X hP hw hK hc i Y s U H E I hf st hg;subst hP hw hK;obtain⟨xs,x,hq,hx⟩:=hg;obtain⟨⟨old,he⟩,hit⟩:=st;obtain⟨its,rv,p,hz⟩:=I.list (aF.of hq);obtain⟨u,hu,ru⟩:=rv.get hx;have heN:H e=none:=(hf e (by simp)).1;have hes:e≠s.heap.objs.size:=pc (sK he);obtain⟨oi,hoi,_⟩:=id hit;have his:it≠s.heap.objs.size:=pc (sK hoi);refine wpAny_pyNext_enum_item he hit p.isList (x:=u) (by simpa using hu) hei λh1 heo hit1 ht1 hz1 hk1=>?_
  have I1:Inv X Y U (upd H s.heap.objs.size (.tup [.int i,x])) { s with heap:=h1,toks:=s.toks+1 }:=
   I.tB (ch:=[e,it]) (λb o hb q=>hk1 b o (λz=>hb (by simp[z])) (λz=>hb (by simp[z])) q) hf (pi _)
    ⟨fits (nw rfl),[.int i s.toks,u],.cons ⟨_,rfl⟩ (.cons ru .nil),⟨_,ht1,rfl,_,rfl⟩⟩
  refine⟨_,rfl,wpAny_letOwnedTupleGo_enum heo λh2 he2 hs2=>?_⟩;obtain⟨f0,f1,f2,f3,f4,f5⟩:=hf e (by simp);have I2:=I1.turned (h':=h2) (t':=s.toks+1) (it:=e) (λb o hb q=>(hs2.2 b hb).trans q) (by rw[ah hes];exact heN) f1 f3 f4 f5;refine⟨.ref s.heap.objs.size,_,I2,rfl,⟨_,x,I.hok.fresh (pi _),rfl,rfl,λys hy=>?_⟩,⟨⟨_,by simpa using he2⟩,hit1.at λo q=>(hs2.2 it hei.symm).trans q⟩,λb hb=>?_⟩
  .rw[hq]at hy;cases hy;exact hx
  .have hb':b≠s.heap.objs.size:=by
    rcases lv.mp hb with rfl|hb
    .exact hes
    .have e':b=it:=by simpa using hb
     subst e';exact his
   rw[ah hb'];exact(hf b hb).1
 done:=by
  intro X hP hw hK hc i Y s U H E I hf st hg;subst hP hw hK;obtain⟨xs,hq,hx⟩:=hg;obtain⟨⟨old,he⟩,hit⟩:=st;obtain⟨its,rv,p,hz⟩:=I.list (aF.of hq);obtain⟨f0,f1,f2,f3,f4,f5⟩:=hf it (by simp);have hl:=rv.length;exact wpAny_pyNext_enum_end (I.ok.hd hc) he hit p.isList (by simp;omega) λh' eb=>⟨rfl,I.turned (t':=s.toks) (λb o hb q=>eb b o hb q) f0 f1 f3 f4 f5⟩
 self:=λ_ _ _ _ _ st h=>by
  obtain⟨⟨old,he⟩,hit⟩:=st;exact wpAny_pyIter_enum he h
def kI:bootBuiltins "enumerate"=some (.type "enumerate"):=by decide+kernel
abbrev C8 (ta:TA):TI:=λU H R=>ta U H λvs H1=>∃ l,vs=[.ref l]/\(∃ xs,H1 l=some (.lst xs))/\R (Dr l) H1
def xq {k:Nat}{a:Expr}{ta:TA}{p pos':Pos}(hg:Gl X "enumerate") (hm:X.mg "enumerate"=none) (ha:PA X [a] ta) (hs:bm [a] X.env=[(false,eval a X.env)]:=by rfl):
  PI X (.Tuple elts k pos') (.Call (.Name "enumerate" p) [a] [] pos) (C8 ta):=by
 intro Y s U H R I h;refine Call_ (hJ I hg hm kI (PyProof.Rows.callWith_type1 (aB (ha pos Y s U H _ I h) λus s1 ⟨vs,H1,I1,r1,q1⟩=>?_) hs rfl));obtain⟨l,e,⟨xs,hl⟩,q⟩:=q1;subst e;cases r1 with
 |cons r rr=>
  cases rr;cases r;obtain⟨z,its,n,r,hlen,e⟩:=I1.j0 hl;refine call_enumerate_1 e λh' he hit hsz hk=>?_
  refine wpAny_pyIter_enum he ?_;refine⟨s1.heap.objs.size+1,[s1.heap.objs.size+1,s1.heap.objs.size],_,_,H1,rfl,I1.kept (t':=s1.toks) hk,rj l _ _ (Nat.succ_ne_self _),⟨⟨_,he⟩,hit⟩,λb hb=>?_,q⟩;have hb':s1.heap.objs.size<=b:=by
   rcases lv.mp hb with rfl|hb
   .exact Nat.le_succ _
   .have e':b=s1.heap.objs.size:=by simpa using hb
    exact Nat.le_of_eq e'.symm
  exact I1.rh hb' (I1.hok.fresh hb')
section
variable {g:TG}{tb:TS}{D:Ends}{U:St}{H:Hp}{ta:TA}
end
section
variable {X:Cx}
end
section
variable {K:W.Frag}{r:V->List V->Hp->VK->Prop}{to:TE}{t:TA}{U:St}{H:Hp}{Q:VK}
end
section
variable {H H1 H2:Hp}{p h c:Addr}{o:HO}{m:Int}
end
section
variable {H H':Hp}{xs ys:List V}{f:Nat->Int×Int}
end
section
variable {X:Cx}{a b c d:Expr}{ta tb tc td:TE}{pos:Pos}
end
section
variable {K:W.Frag}{U:St}{H:Hp}{Q:VK}{ta tb tc td tv:TE}{t:TA}{f m:Str}{D:Ends}{C:Addr}{sp:Sp}{dvs:List V}{E:XK}
end
section
variable {g:TG}{tb:TS}{D:Ends}{U:St}{H:Hp}{ta:TA}
end
section
variable {C:Addr}{H H':Hp}{S D h c:Addr}{rs:List Rec}{r:Rec}
end
section
variable {X:Cx}
end
end L2
namespace L2
end L2
namespace L2
open PySem PySem.Spec PyProof.Rows
section
variable {C:Addr}{H HF:Hp}{S D h c:Addr}{rs:List Rec}{r':Rec}
end
section
variable {X:Cx}
end
structure Ei (K:W.Frag) (C:Addr):Prop where
 ha:W.findIn K (.ref C) "__class__"=some (some (.builtin "object.__class__"))
 hn:W.specialIn K (.builtin "object.__class__") "__get__"=some (some (.builtin "getset_descriptor.__get__"))
 htk:W.takesIn K (.builtin "object.__class__")=some true
 hm:W.mroIn K C (.type "object")=some true
end L2
namespace L2
open PySem PySem.Spec PySem.W PyProof.Rows
abbrev a9 (tp:Bool)(h:Heap)(j b:Addr)(k:Nat):Prop:=match tp with
 |true=>h.IsTupleIter j b k
 |false=>h.IsListIter j b k
abbrev ck (tp:Bool)(h:Heap)(b:Addr)(xs:Array Value):Prop:=match tp with
 |true=>h.IsTuple b xs
 |false=>h.IsList b xs
variable {tp:Bool}{h:Heap}{b:Addr}{k:Nat}
def a9.to {h':Heap}{j:Addr}(g:a9 tp h j b k)(e:∀ o,h.get? j=some o->h'.get? j=some o):a9 tp h' j b k:=by
 cases tp
 .obtain⟨o,e1,r⟩:=(show h.IsListIter j b k from g);exact⟨o,e o e1,r⟩
 .obtain⟨o,e1,r⟩:=(show h.IsTupleIter j b k from g);exact⟨o,e o e1,r⟩
variable {xs:Array Value}
def ck.to {h':Heap}(g:ck tp h b xs)(e:∀ o,h.get? b=some o->h'.get? b=some o):ck tp h' b xs:=by
 cases tp
 .obtain⟨o,e1,r⟩:=(show h.IsList b xs from g);exact⟨o,e o e1,r⟩
 .obtain⟨o,e1,r⟩:=(show h.IsTuple b xs from g);exact⟨o,e o e1,r⟩
def a9.lt {j:Addr}(g:a9 tp h j b k):j<h.objs.size:=by
 cases tp
 .obtain⟨o,e1,r⟩:=(show h.IsListIter j b k from g);exact sK e1
 .obtain⟨o,e1,r⟩:=(show h.IsTupleIter j b k from g);exact sK e1
def ck.lt (g:ck tp h b xs):b<h.objs.size:=by
 cases tp
 .obtain⟨o,e1,r⟩:=(show h.IsList b xs from g);exact sK e1
 .obtain⟨o,e1,r⟩:=(show h.IsTuple b xs from g);exact sK e1
variable {Q:Option Value->Shared->Prop}{T:Int}{t:Tok}{fb:Bool}{oT:Obj}
section
variable {prog:Program}{w:World}{A:Around}{E:GC}{s:Shared}
def By {j:Addr}{x:Value}{Q:GC}(g:s.heap.IsTupleIter j b k)(t:s.heap.IsTuple b xs)(hx:xs[k]? =some x)
  (q:∀ h',h'.IsTupleIter j b (k+1)->Heap.SameBut j s.heap h'->Q x { s with heap:=h' }):wpAny (model prog w) A (Builtin.SmallTypes.nextOf (.ref j)) Q E s:=by
 obtain⟨o1,e1,c1,d1⟩:=id g;obtain⟨o2,e2,_,n2,d2⟩:=t;unfold Builtin.SmallTypes.nextOf;refine ad (wpAny_callSpecial?_slot (name:=Str.ofString "__next__") g.typeIs F.slot_tuple_iterator_next (wpAny_call_entry F.slot_tuple_iterator_next g.typeIs F.entry_tuple_iterator_next ?_ (F.args_tuple_iterator_next_1 _)));show wpAny _ _ (field (.ref j) 0 >>= _) _ _ s;refine ad (ap e1 d1 (x:=.ref b) rfl ?_);show wpAny _ _ (if(Value.ref b ==Value.none)=true then _ else _) _ _ s;rw[if_neg (show ¬ ((Value.ref b ==Value.none)=true) from Bool.false_ne_true)];show wpAny _ _ (field (.ref j) 1 >>= _) _ _ s;refine ad (ap e1 d1 (x:=.int k 0) rfl ?_);show wpAny _ _ (seqItems? (.ref b) >>= _) _ _ s;refine ad (wpAny_seqItems e2 d2 ?_);simp only[re,hx];refine ad (wpAny_setField e1 d1 (by simp) (am ⟨x,rfl,am (q _ ?_ (Heap.SameBut.update ..))⟩));refine⟨_,Heap.get?_update_self _ e1 (Obj.isFreed_of_fields (Obj.data_mapFields d1 _)),(Obj.cls_mapFields ..).trans c1,?_⟩;rw[Obj.data_mapFields d1];simp[rawInt]
def yj {j:Addr}{Q:GC}(hh:A.handled=none)(g:s.heap.IsTupleIter j b k)(t:s.heap.IsTuple b xs)(hx:xs[k]? =none)
  (q:∀ h' e,Heap.ExtBut j s.heap h'->(∃ o,h'.get? e=some o/\o.cls=.type "StopIteration")->E (.ref e) { s with heap:=h' }):wpAny (model prog w) A (Builtin.SmallTypes.nextOf (.ref j)) Q E s:=by
 obtain⟨o1,e1,c1,d1⟩:=id g;obtain⟨o2,e2,_,n2,d2⟩:=t;unfold Builtin.SmallTypes.nextOf;refine ad (wpAny_callSpecial?_slot (name:=Str.ofString "__next__") g.typeIs F.slot_tuple_iterator_next (wpAny_call_entry F.slot_tuple_iterator_next g.typeIs F.entry_tuple_iterator_next ?_ (F.args_tuple_iterator_next_1 _)));show wpAny _ _ (field (.ref j) 0 >>= _) _ _ s;refine ad (ap e1 d1 (x:=.ref b) rfl ?_);show wpAny _ _ (if(Value.ref b ==Value.none)=true then _ else _) _ _ s;rw[if_neg (show ¬ ((Value.ref b ==Value.none)=true) from Bool.false_ne_true)];show wpAny _ _ (field (.ref j) 1 >>= _) _ _ s;refine ad (ap e1 d1 (x:=.int k 0) rfl ?_);show wpAny _ _ (seqItems? (.ref b) >>= _) _ _ s;refine ad (wpAny_seqItems e2 d2 ?_);simp only[re,hx];refine ad (wpAny_rule (ad (wpAny_setField e1 d1 (by simp) ?_)));show wpAny _ _ (newExc (.type "StopIteration") [] >>= _) _ _ _;refine ad ?_;simp only[newExc,newTuple];refine ad (wpAny_newObj_type ?_ (by size_fits));refine ad (m:=firstArgMember _ _) (wpAny_of_eq (a:=Value.none) (by first|rfl|(simp only[firstArgMember];rfl)) ?_);refine wpAny_newObj_type ?_ (by size_fits);simp only[raiseNew];refine ad (wpAny_handled ?_);first|rw[show A.in1.handled=none from hh]|rw[hh]
 refine ad (am (wpAny_throw ?_));exact q _ _ (((Heap.SameBut.update ..).extBut.push _).push _) ⟨_,tz _ rfl,rfl⟩
def dw {j:Addr}{x:Value}{Q:GC}(g:a9 tp s.heap j b k)(t:ck tp s.heap b xs)(hx:xs[k]? =some x)
  (q:∀ h',a9 tp h' j b (k+1)->Heap.SameBut j s.heap h'->Q x { s with heap:=h' }):wpAny (model prog w) A (Builtin.SmallTypes.nextOf (.ref j)) Q E s:=by
 cases tp
 .exact wpAny_nextOf_list_item g t hx q
 .exact By g t hx q
def kO {j:Addr}{Q:GC}(hh:A.handled=none)(g:a9 tp s.heap j b k)(t:ck tp s.heap b xs)(hx:xs[k]? =none)
  (q:∀ h' e,Heap.ExtBut j s.heap h'->(∃ o,h'.get? e=some o/\o.cls=.type "StopIteration")->E (.ref e) { s with heap:=h' }):wpAny (model prog w) A (Builtin.SmallTypes.nextOf (.ref j)) Q E s:=by
 cases tp
 .exact wpAny_nextOf_list_end hh g t hx q
 .exact yj hh g t hx q
@[reducible]def cf (h:Heap) (z TI TO:Addr) (f0 f1:Value):Prop:=h.get? z=some { cls:=.type "zip",dict:=none,data:=.fields #[f0,f1,.bool false,.ref TI,.ref TO],slots:=#[] }
variable {z TI TO i1 i2 l1 l2:Addr}{k1 k2:Nat}{tp1 tp2:Bool}{xs ys:Array Value}{x y a b f1:Value}
def w4 (D:ZipApart z TI TO i1 i2 l1 l2)(hz:cf s.heap z TI TO .none f1)(hI:IsPair s.heap TI (.ref i1) (.ref i2))(hO:IsPair s.heap TO a b)
  (g1:a9 tp1 s.heap i1 l1 k1) (g2:a9 tp2 s.heap i2 l2 k2) (t1:ck tp1 s.heap l1 xs) (t2:ck tp2 s.heap l2 ys) (hx:xs[k1]? =some x) (hy:ys[k2]? =some y)
  (q:∀ h',cf h' z TI TO (rawInt s.heap.objs.size) (.bool false)->IsPair h' TO x y->a9 tp1 h' i1 l1 (k1+1)->a9 tp2 h' i2 l2 (k2+1)->IsPair h' s.heap.objs.size x y->h'.objs.size=s.heap.objs.size+1->
   (∀ c o,c≠z->c≠TO->c≠i1->c≠i2->s.heap.get? c=some o->h'.get? c=some o)->Q (some (.ref s.heap.objs.size)) { s with heap:=h' }):wpAny (model prog w) A (pyNext (.ref z)) Q E s:=by
 have hZ:s.TypeIs (.ref z) "zip":=⟨_,hz,rfl⟩;unfold pyNext;refine ad (wpAny_attempt (wpAny_callSpecial?_slot (name:=Str.ofString "__next__") hZ F.slot_zip_next (wpAny_call_entry F.slot_zip_next hZ F.entry_zip_next ?_ (F.args_zip_next_1 _))));show wpAny _ _ (field (.ref z) 2 >>= _) _ _ _;refine ad (ap (x:=.bool false) hz rfl rfl ?_);show wpAny _ _ (field (.ref z) 3 >>= _) _ _ _;refine ad (ap (x:=.ref TI) hz rfl rfl ?_);refine ad (wpAny_seqItems hI rfl ?_);show wpAny _ _ (Builtin.SmallTypes.ownedTupleIsFree (.ref z) >>= _) _ _ _;refine ad ?_;unfold Builtin.SmallTypes.ownedTupleIsFree;refine ad (ap (x:=.none) hz rfl rfl (am ?_));simp only[if_true];refine ad (wpAny_rule ?_);refine ad (ap (x:=.ref TO) hz rfl rfl ?_);refine ad (wpAny_setField_rec hz (by simp) λp1 z1 b1=>?_)
 replace z1:cf p1 z TI TO .ellipsis f1:=z1
 refine ad ?_;simp only[List.zipIdx_cons,List.zipIdx_nil,forIn_cons,forIn_nil];refine ad (ad (wpAny_onRaise ?_));show wpAny _ _ (Builtin.SmallTypes.nextOf (.ref i1) >>= _) _ _ _;refine ad (dw (g1.to λo e=>b1.extBut _ o D.i1z e) (t1.to λo e=>b1.extBut _ o D.l1z e) hx λp2 g1b b2=>am ?_);have hO2:IsPair p2 TO a b:=b2.extBut _ _ D.TOi1 (b1.extBut _ _ D.TOz hO);refine ad (wpAny_seqItems hO2 rfl ?_);refine ad (wpAny_updateSeq_pair hO2 λp3 hO3 b3=>?_)
 replace hO3:IsPair p3 TO x b:=hO3
 refine ad (wpAny_letGo (am ?_));refine ad (ad (wpAny_onRaise ?_));show wpAny _ _ (Builtin.SmallTypes.nextOf (.ref i2) >>= _) _ _ _;refine ad (dw (g2.to λo e=>b3.extBut _ o D.TOi2.symm (b2.extBut _ o D.i12.symm (b1.extBut _ o D.i2z e))) (t2.to λo e=>b3.extBut _ o D.l2TO (b2.extBut _ o D.l2i1 (b1.extBut _ o D.l2z e))) hy λp4 g2b b4=>am ?_);have hO4:IsPair p4 TO x b:=b4.extBut _ _ D.TOi2 hO3;refine ad (wpAny_seqItems hO4 rfl ?_);refine ad (wpAny_updateSeq_pair hO4 λp5 hO5 b5=>?_)
 replace hO5:IsPair p5 TO x y:=hO5
 refine ad (wpAny_letGo (am (am ?_)));refine ad (wpAny_seqItems hO5 rfl ?_);refine ad (wpAny_newTuple ?_);have hsz:p5.objs.size=s.heap.objs.size:=by rw[b5.1,b4.1,b3.1,b2.1,b1.1]
 have z5:cf p5 z TI TO .ellipsis f1:=b5.extBut _ _ D.TOz.symm (b4.extBut _ _ D.i2z.symm (b3.extBut _ _ D.TOz.symm (b2.extBut _ _ D.i1z.symm z1)));have k5:∀ c o,c≠z->c≠TO->c≠i1->c≠i2->s.heap.get? c=some o->p5.get? c=some o:=λc o n1 n2 n3 n4 e=>b5.extBut _ _ n2 (b4.extBut _ _ n4 (b3.extBut _ _ n2 (b2.extBut _ _ n3 (b1.extBut _ _ n1 e))))
 have g15:a9 tp1 p5 i1 l1 (k1+1):=g1b.to λo e=>b5.extBut _ o D.TOi1.symm (b4.extBut _ o D.i12 (b3.extBut _ o D.TOi1.symm e))
 have g25:a9 tp2 p5 i2 l2 (k2+1):=g2b.to λo e=>b5.extBut _ o D.TOi2.symm e
 have zlt:z<p5.objs.size:=sK z5;show wpAny _ _ (Builtin.SmallTypes.ownedTupleHandOut (.ref z) (.ref p5.objs.size) >>= _) _ _ _;refine ad ?_;unfold Builtin.SmallTypes.ownedTupleHandOut;have z6:cf (p5.push { cls:=.type "tuple",data:=.seq #[x,y] }) z TI TO .ellipsis f1:=sw _ z5;refine ad (wpAny_setField_rec z6 (by simp) λp7 z7 b7=>?_)
 replace z7:cf p7 z TI TO (rawInt p5.objs.size) f1:=z7
 refine wpAny_setField_rec z7 (by simp) λp8 z8 b8=>?_
 replace z8:cf p8 z TI TO (rawInt p5.objs.size) (.bool false):=z8
 have up:∀ c o,c≠z->p5.get? c=some o->p8.get? c=some o:=λc o n1 e=>b8.extBut _ _ n1 (b7.extBut _ _ n1 (sw _ e))
 have hT:IsPair p8 p5.objs.size x y:=b8.extBut _ _ (Nat.ne_of_gt zlt) (b7.extBut _ _ (Nat.ne_of_gt zlt) (tz _ rfl));have h8:p8.objs.size=p5.objs.size+1:=by rw[b8.1,b7.1,Heap.size_push]
 rw[hsz]at z8 hT h8;refine am ⟨_,rfl,?_⟩;rw[hsz];exact am (q p8 z8 (up _ _ D.TOz hO5) (g15.to λo e=>up _ o D.i1z e) (g25.to λo e=>up _ o D.i2z e) hT h8 λc o n1 n2 n3 n4 e=>up c o n1 (k5 c o n1 n2 n3 n4 e))
def zE {Q:Fin->Shared->Prop}(hh:A.handled=none)(D:ZipApart z TI TO i1 i2 l1 l2)(hz:cf s.heap z TI TO .none f1)(hI:IsPair s.heap TI (.ref i1) (.ref i2))(hO:IsPair s.heap TO a b)
  (g1:a9 tp1 s.heap i1 l1 k1) (g2:a9 tp2 s.heap i2 l2 k2) (t1:ck tp1 s.heap l1 xs) (t2:ck tp2 s.heap l2 ys) (hx:xs[k1]? =none\/ys[k2]? =none)
  (q:∀ h' e,(∀ c o,c≠z->c≠TO->c≠i1->c≠i2->s.heap.get? c=some o->h'.get? c=some o)->(∃ o,h'.get? e=some o/\o.cls=.type "StopIteration")->E (.ref e) { s with heap:=h' }):
  wpAny (model prog w) A (Builtin.«zip.__next__» ⟨[.ref z],[]⟩) Q E s:=by
 show wpAny _ _ (field (.ref z) 2 >>= _) _ _ _;refine ad (ap (x:=.bool false) hz rfl rfl ?_);show wpAny _ _ (field (.ref z) 3 >>= _) _ _ _;refine ad (ap (x:=.ref TI) hz rfl rfl ?_);refine ad (wpAny_seqItems hI rfl ?_);show wpAny _ _ (Builtin.SmallTypes.ownedTupleIsFree (.ref z) >>= _) _ _ _;refine ad ?_;unfold Builtin.SmallTypes.ownedTupleIsFree;refine ad (ap (x:=.none) hz rfl rfl (am ?_));simp only[if_true];refine ad (wpAny_rule ?_);refine ad (ap (x:=.ref TO) hz rfl rfl ?_);refine ad (wpAny_setField_rec hz (by simp) λp1 z1 b1=>?_)
 replace z1:cf p1 z TI TO .ellipsis f1:=z1
 refine ad ?_;simp only[List.zipIdx_cons,List.zipIdx_nil,forIn_cons,forIn_nil];refine ad (ad (wpAny_onRaise ?_));show wpAny _ _ (Builtin.SmallTypes.nextOf (.ref i1) >>= _) _ _ _;cases e1:xs[k1]? with
 |none=>
  refine ad (kO hh (g1.to λo e=>b1.extBut _ o D.i1z e) (t1.to λo e=>b1.extBut _ o D.l1z e) e1 λp2 e b2 he=>?_);obtain⟨oe,ho,hc⟩:=he;have z2:cf p2 z TI TO .ellipsis f1:=b2 _ _ D.i1z.symm z1;have ne:e≠z:=λn=>by subst n;rw[z2]at ho;cases ho;simp at hc
  exact wpAny_setField_rec z2 (by simp) λp3 _ b3=>q p3 e (λc o n1 _ n3 _ v=>b3.extBut _ _ n1 (b2 _ _ n3 (b1.extBut _ _ n1 v))) ⟨oe,b3.extBut _ _ ne ho,hc⟩
 |some x=>
  have e2:ys[k2]? =none:=by rcases hx with h|h;(rw[e1]at h;cases h);exact h
  refine ad (dw (g1.to λo e=>b1.extBut _ o D.i1z e) (t1.to λo e=>b1.extBut _ o D.l1z e) e1 λp2 g1b b2=>am ?_);have hO2:IsPair p2 TO a b:=b2.extBut _ _ D.TOi1 (b1.extBut _ _ D.TOz hO);refine ad (wpAny_seqItems hO2 rfl ?_);refine ad (wpAny_updateSeq_pair hO2 λp3 hO3 b3=>?_);refine ad (wpAny_letGo (am ?_));refine ad (ad (wpAny_onRaise ?_));show wpAny _ _ (Builtin.SmallTypes.nextOf (.ref i2) >>= _) _ _ _;refine ad (kO hh (g2.to λo e=>b3.extBut _ o D.TOi2.symm (b2.extBut _ o D.i12.symm (b1.extBut _ o D.i2z e))) (t2.to λo e=>b3.extBut _ o D.l2TO (b2.extBut _ o D.l2i1 (b1.extBut _ o D.l2z e))) e2 λp4 e b4 he=>?_);obtain⟨oe,ho,hc⟩:=he;have z4:cf p4 z TI TO .ellipsis f1:=b4 _ _ D.i2z.symm (b3.extBut _ _ D.TOz.symm (b2.extBut _ _ D.i1z.symm z1));have ne:e≠z:=λn=>by subst n;rw[z4]at ho;cases ho;simp at hc
  exact wpAny_setField_rec z4 (by simp) λp5 _ b5=>q p5 e (λc o n1 n2 n3 n4 v=>b5.extBut _ _ n1 (b4 _ _ n4 (b3.extBut _ _ n2 (b2.extBut _ _ n3 (b1.extBut _ _ n1 v))))) ⟨oe,b5.extBut _ _ ne ho,hc⟩
def mw {c:Addr}{Q:Option Obj->Shared->Prop}(h:Q (s.heap.get? c) s):wpAny (model prog w) A (loadIfAlive c) Q E s:=λ_ _ _=>h
def lM {Q:Bool->Shared->Prop}(hz:cf s.heap z TI TO (.int T t) (.bool fb))(hT:s.heap.get? T.toNat=some oT)(q:∀ h',cf h' z TI TO (.int T t) (.bool true)->Heap.SameBut z s.heap h'->Q false { s with heap:=h' }):
  wpAny (model prog w) A (Builtin.SmallTypes.ownedTupleIsFree (.ref z)) Q E s:=by
 unfold Builtin.SmallTypes.ownedTupleIsFree;refine ad (ap (x:=.int T t) hz rfl rfl ?_);refine ad (mw ?_);rw[hT];refine ad (ap (x:=.bool fb) hz rfl rfl ?_);cases fb
 .refine ad (wpAny_setField_rec hz (by simp) λp1 z1 b1=>am ?_);exact q p1 z1 b1
 .exact ad (am (am (q s.heap hz (Heap.SameBut.refl ..))))
def wj (D:ZipApart z TI TO i1 i2 l1 l2)(hz:cf s.heap z TI TO (.int T t) (.bool fb))(hT:s.heap.get? T.toNat=some oT)(hI:IsPair s.heap TI (.ref i1) (.ref i2))
  (g1:a9 tp1 s.heap i1 l1 k1) (g2:a9 tp2 s.heap i2 l2 k2) (t1:ck tp1 s.heap l1 xs) (t2:ck tp2 s.heap l2 ys) (hx:xs[k1]? =some x) (hy:ys[k2]? =some y)
  (q:∀ h',cf h' z TI TO (.int T t) (.bool true)->a9 tp1 h' i1 l1 (k1+1)->a9 tp2 h' i2 l2 (k2+1)->IsPair h' s.heap.objs.size x y->h'.objs.size=s.heap.objs.size+1->
   (∀ c o,c≠z->c≠i1->c≠i2->s.heap.get? c=some o->h'.get? c=some o)->Q (some (.ref s.heap.objs.size)) { s with heap:=h' }):wpAny (model prog w) A (pyNext (.ref z)) Q E s:=by
 have hZ:s.TypeIs (.ref z) "zip":=⟨_,hz,rfl⟩;unfold pyNext;refine ad (wpAny_attempt (wpAny_callSpecial?_slot (name:=Str.ofString "__next__") hZ F.slot_zip_next (wpAny_call_entry F.slot_zip_next hZ F.entry_zip_next ?_ (F.args_zip_next_1 _))));show wpAny _ _ (field (.ref z) 2 >>= _) _ _ _;refine ad (ap (x:=.bool false) hz rfl rfl ?_);show wpAny _ _ (field (.ref z) 3 >>= _) _ _ _;refine ad (ap (x:=.ref TI) hz rfl rfl ?_);refine ad (wpAny_seqItems hI rfl ?_);show wpAny _ _ (Builtin.SmallTypes.ownedTupleIsFree (.ref z) >>= _) _ _ _;refine ad (lM hz hT λp1 z1 b1=>?_);simp only[Bool.false_eq_true,if_false];simp only[List.forIn_toArray,forIn_cons,forIn_nil];refine ad (ad (ad (bd ?_)));show wpAny _ _ (Builtin.SmallTypes.nextOf (.ref i1) >>= _) _ _ _;refine ad (dw (g1.to λo e=>b1.extBut _ o D.i1z e) (t1.to λo e=>b1.extBut _ o D.l1z e) hx λp2 g1b b2=>am (am ?_));dsimp only;refine ad (ad (bd ?_));show wpAny _ _ (Builtin.SmallTypes.nextOf (.ref i2) >>= _) _ _ _;refine ad (dw (g2.to λo e=>b2.extBut _ o D.i12.symm (b1.extBut _ o D.i2z e)) (t2.to λo e=>b2.extBut _ o D.l2i1 (b1.extBut _ o D.l2z e)) hy λp3 g2b b3=>am (am (am ?_)));dsimp only;refine ad (wpAny_newTuple ?_ (hsz:=fits (nw rfl)));have hsz:p3.objs.size=s.heap.objs.size:=by rw[b3.1,b2.1,b1.1]
 refine am ⟨_,rfl,?_⟩;have z3:cf p3 z TI TO (.int T t) (.bool true):=b3.extBut _ _ D.i2z.symm (b2.extBut _ _ D.i1z.symm z1);rw[hsz];refine am (q _ (sw _ z3) (g1b.to λo e=>sw _ (b3.extBut _ o D.i12 e)) (g2b.to λo e=>sw _ e) (by rw[<-hsz];exact tz _ rfl) (by rw[Heap.size_push,hsz]) λc o n1 n2 n3 e=>?_);exact sw _ (b3.extBut _ _ n3 (b2.extBut _ _ n2 (b1.extBut _ _ n1 e)))
def tP {Q:Fin->Shared->Prop}(hh:A.handled=none)(D:ZipApart z TI TO i1 i2 l1 l2)(hz:cf s.heap z TI TO (.int T t) (.bool fb))(hT:s.heap.get? T.toNat=some oT)(hI:IsPair s.heap TI (.ref i1) (.ref i2))
  (g1:a9 tp1 s.heap i1 l1 k1) (g2:a9 tp2 s.heap i2 l2 k2) (t1:ck tp1 s.heap l1 xs) (t2:ck tp2 s.heap l2 ys) (hx:xs[k1]? =none\/ys[k2]? =none)
  (q:∀ h' e,(∀ c o,c≠z->c≠i1->c≠i2->s.heap.get? c=some o->h'.get? c=some o)->(∃ o,h'.get? e=some o/\o.cls=.type "StopIteration")->E (.ref e) { s with heap:=h' }):
  wpAny (model prog w) A (Builtin.«zip.__next__» ⟨[.ref z],[]⟩) Q E s:=by
 show wpAny _ _ (field (.ref z) 2 >>= _) _ _ _;refine ad (ap (x:=.bool false) hz rfl rfl ?_);show wpAny _ _ (field (.ref z) 3 >>= _) _ _ _;refine ad (ap (x:=.ref TI) hz rfl rfl ?_);refine ad (wpAny_seqItems hI rfl ?_);show wpAny _ _ (Builtin.SmallTypes.ownedTupleIsFree (.ref z) >>= _) _ _ _;refine ad (lM hz hT λp1 z1 b1=>?_);simp only[Bool.false_eq_true,if_false];simp only[List.forIn_toArray,forIn_cons,forIn_nil];refine ad (ad (ad (bd ?_)));show wpAny _ _ (Builtin.SmallTypes.nextOf (.ref i1) >>= _) _ _ _;cases e1:xs[k1]? with
 |none=>exact ad (kO hh (g1.to λo e=>b1.extBut _ o D.i1z e) (t1.to λo e=>b1.extBut _ o D.l1z e) e1 λp2 e b2 he=>q p2 e (λc o n1 n2 n3 v=>b2 _ _ n2 (b1.extBut _ _ n1 v)) he)
 |some x=>
  have e2:ys[k2]? =none:=by rcases hx with h|h;(rw[e1]at h;cases h);exact h
  refine ad (dw (g1.to λo e=>b1.extBut _ o D.i1z e) (t1.to λo e=>b1.extBut _ o D.l1z e) e1 λp2 g1b b2=>am (am ?_));dsimp only;refine ad (ad (bd ?_));show wpAny _ _ (Builtin.SmallTypes.nextOf (.ref i2) >>= _) _ _ _;exact ad (kO hh (g2.to λo e=>b2.extBut _ o D.i12.symm (b1.extBut _ o D.i2z e)) (t2.to λo e=>b2.extBut _ o D.l2i1 (b1.extBut _ o D.l2z e)) e2 λp4 e b4 he=>q p4 e (λc o n1 n2 n3 v=>b4 _ _ n3 (b2.extBut _ _ n2 (b1.extBut _ _ n1 v))) he)
def BI (hh:A.handled=none)(D:ZipApart z TI TO i1 i2 l1 l2)(hz:cf s.heap z TI TO .none f1)(hI:IsPair s.heap TI (.ref i1) (.ref i2))(hO:IsPair s.heap TO a b)
  (g1:a9 tp1 s.heap i1 l1 k1) (g2:a9 tp2 s.heap i2 l2 k2) (t1:ck tp1 s.heap l1 xs) (t2:ck tp2 s.heap l2 ys) (hx:xs[k1]? =none\/ys[k2]? =none)
  (q:∀ h',(∀ c o,c≠z->c≠TO->c≠i1->c≠i2->s.heap.get? c=some o->h'.get? c=some o)->Q none { s with heap:=h' }):wpAny (model prog w) A (pyNext (.ref z)) Q E s:=by
 have hT:s.TypeIs (.ref z) "zip":=⟨_,hz,rfl⟩;unfold pyNext;refine ad (wpAny_attempt (wpAny_callSpecial?_slot (name:=Str.ofString "__next__") hT F.slot_zip_next (wpAny_call_entry F.slot_zip_next hT F.entry_zip_next (zE hh D hz hI hO g1 g2 t1 t2 hx λh' e k ⟨o,ho,hc⟩=>?_) (F.args_zip_next_1 _))));exact ad (wpAny_isInstance (T:="StopIteration") (b:=true) ⟨o,ho,hc⟩ isSubtype_stop (am (q _ k)))
def sP (hh:A.handled=none)(D:ZipApart z TI TO i1 i2 l1 l2)(hz:cf s.heap z TI TO (.int T t) (.bool fb))(hT:s.heap.get? T.toNat=some oT)(hI:IsPair s.heap TI (.ref i1) (.ref i2))
  (g1:a9 tp1 s.heap i1 l1 k1) (g2:a9 tp2 s.heap i2 l2 k2) (t1:ck tp1 s.heap l1 xs) (t2:ck tp2 s.heap l2 ys) (hx:xs[k1]? =none\/ys[k2]? =none)
  (q:∀ h',(∀ c o,c≠z->c≠i1->c≠i2->s.heap.get? c=some o->h'.get? c=some o)->Q none { s with heap:=h' }):wpAny (model prog w) A (pyNext (.ref z)) Q E s:=by
 have hT':s.TypeIs (.ref z) "zip":=⟨_,hz,rfl⟩;unfold pyNext;refine ad (wpAny_attempt (wpAny_callSpecial?_slot (name:=Str.ofString "__next__") hT' F.slot_zip_next (wpAny_call_entry F.slot_zip_next hT' F.entry_zip_next (tP hh D hz hT hI g1 g2 t1 t2 hx λh' e k ⟨o,ho,hc⟩=>?_) (F.args_zip_next_1 _))));exact ad (wpAny_isInstance (T:="StopIteration") (b:=true) ⟨o,ho,hc⟩ isSubtype_stop (am (q _ k)))
end
section
variable {prog:Program}{w:World}{A:Around}{E:GC}{s:Shared}{a:Addr}{vs:Array Value}
end
structure Zs (h:Heap) (tp1 tp2:Bool) (z TI TO i1 i2 l1 l2:Addr) (i:Nat) (xs ys:Array Value):Prop where
 zo:(∃ f1,cf h z TI TO .none f1)\/∃ (T:Int) (fb:Bool) (o:Obj),cf h z TI TO (rawInt T) (.bool fb)/\h.get? T.toNat=some o/\T.toNat≠z/\T.toNat≠TO/\T.toNat≠i1/\T.toNat≠i2
 hI:IsPair h TI (.ref i1) (.ref i2)
 hO:∃ a b,IsPair h TO a b
 g1:a9 tp1 h i1 l1 i
 g2:a9 tp2 h i2 l2 i
 t1:ck tp1 h l1 xs
 t2:ck tp2 h l2 ys
variable {d:Addr}
section
variable {prog:Program}{w:World}{A:Around}{E:GC}{s:Shared}{tp1 tp2:Bool}{z TI TO i1 i2 l1 l2:Addr}{i:Nat}{xs ys:Array Value}{x y:Value}
def Zs.next (D:ZipApart z TI TO i1 i2 l1 l2)(Z:Zs s.heap tp1 tp2 z TI TO i1 i2 l1 l2 i xs ys)(hx:xs[i]? =some x)(hy:ys[i]? =some y)
  (q:∀ h',Zs h' tp1 tp2 z TI TO i1 i2 l1 l2 (i+1) xs ys->IsPair h' s.heap.objs.size x y->h'.objs.size=s.heap.objs.size+1->(∀ c o,c≠z->c≠TO->c≠i1->c≠i2->s.heap.get? c=some o->h'.get? c=some o)->Q (some (.ref s.heap.objs.size)) { s with heap:=h' }):
  wpAny (model prog w) A (pyNext (.ref z)) Q E s:=by
 obtain⟨zo,hI,⟨a,b,hO⟩,g1,g2,t1,t2⟩:=Z;have n0:∀ {c o},s.heap.get? c=some o->s.heap.objs.size≠c:=λe=>Nat.ne_of_gt (sK e)
 rcases zo with⟨f1,hz⟩|⟨T,fb,o,hz,hT,n1,n2,n3,n4⟩
 .refine w4 D hz hI hO g1 g2 t1 t2 hx hy λh' z1 o1 j1 j2 p1 sz k=>?_
  refine q h' ⟨.inr ⟨s.heap.objs.size,false,_,z1,p1,n0 hz,n0 hO,Nat.ne_of_gt g1.lt,Nat.ne_of_gt g2.lt⟩,k _ _ D.TIz D.TITO D.TIi1 D.TIi2 hI,⟨_,_,o1⟩,j1,j2,t1.to λo e=>k _ o D.l1z D.l1TO D.l1i1 D.l1i2 e,t2.to λo e=>k _ o D.l2z D.l2TO D.l2i1 D.l2i2 e⟩ p1 sz k
 .refine wj D hz hT hI g1 g2 t1 t2 hx hy λh' z1 j1 j2 p1 sz k=>?_
  exact q h' ⟨.inr ⟨T,true,o,z1,k _ _ n1 n3 n4 hT,n1,n2,n3,n4⟩,k _ _ D.TIz D.TIi1 D.TIi2 hI,⟨a,b,k _ _ D.TOz D.TOi1 D.TOi2 hO⟩,j1,j2,t1.to λo e=>k _ o D.l1z D.l1i1 D.l1i2 e,t2.to λo e=>k _ o D.l2z D.l2i1 D.l2i2 e⟩ p1 sz λc o m1 _ m3 m4 e=>k c o m1 m3 m4 e
def Zs.stop (hh:A.handled=none)(D:ZipApart z TI TO i1 i2 l1 l2)(Z:Zs s.heap tp1 tp2 z TI TO i1 i2 l1 l2 i xs ys)(hx:xs[i]? =none\/ys[i]? =none)
  (q:∀ h',(∀ c o,c≠z->c≠TO->c≠i1->c≠i2->s.heap.get? c=some o->h'.get? c=some o)->Q none { s with heap:=h' }):wpAny (model prog w) A (pyNext (.ref z)) Q E s:=by
 obtain⟨zo,hI,⟨a,b,hO⟩,g1,g2,t1,t2⟩:=Z;rcases zo with⟨f1,hz⟩|⟨T,fb,o,hz,hT,_⟩
 .exact BI hh D hz hI hO g1 g2 t1 t2 hx q
 .exact sP hh D hz hT hI g1 g2 t1 t2 hx λh' k=>q h' λc o m1 _ m3 m4 e=>k c o m1 m3 m4 e
def Zs.keep {h':Heap}(Z:Zs h tp1 tp2 z TI TO i1 i2 l1 l2 i xs ys)(k:∀ c o,h.get? c=some o->c≠d->h'.get? c=some o) (n:d≠z/\d≠TI/\d≠TO/\d≠i1/\d≠i2/\d≠l1/\d≠l2) (hd:∃ o,h'.get? d=some o):Zs h' tp1 tp2 z TI TO i1 i2 l1 l2 i xs ys:=by
 obtain⟨zo,hI,⟨a,b,hO⟩,g1,g2,t1,t2⟩:=Z;obtain⟨m1,m2,m3,m4,m5,m6,m7⟩:=n;refine⟨?_,k _ _ hI m2.symm,⟨a,b,k _ _ hO m3.symm⟩,g1.to λo e=>k _ o e m4.symm,g2.to λo e=>k _ o e m5.symm,t1.to λo e=>k _ o e m6.symm,t2.to λo e=>k _ o e m7.symm⟩;rcases zo with⟨f1,hz⟩|⟨T,fb,o,hz,hT,r⟩
 .exact .inl ⟨f1,k _ _ hz m1.symm⟩
 .by_cases e:T.toNat=d
  .obtain⟨o',ho⟩:=hd;exact .inr ⟨T,fb,o',k _ _ hz m1.symm,by rw[e];exact ho,r⟩
  .exact .inr ⟨T,fb,o,k _ _ hz m1.symm,k _ _ hT e,r⟩
end
section
variable {prog:Program}{w:World}{A:Around}{tp1 tp2:Bool}{z TI TO i1 i2 l1 l2 d:Addr}{xs ys:Array Value}{Ky:Type} [DecidableEq Ky] {knd:KeyKind prog w Ky}
end
section
variable {X:Cx}{Y:GD}{U:St}{H:Hp}{s:Shared}{a:Addr}{kvs:List (Key×V)}{A:Around}{E:GC}
end
variable {A:Around}
section
variable {X:Cx}{Y:GD}{U:St}{H:Hp}{s:Shared}
def mj {x:V}{u t:Value}(I:Inv X Y U H s)(rx:RelV x u)(ty:eY X.K H x t):∃ P:Heap->Prop,KitX X.K u t P/\P s.heap/\u≠.builtin "__main__.__loader__#opaque":=by
 cases ty with
 |non=>cases(show u=Value.none from rx);exact⟨_,kitx_none,True.intro,λz=>nomatch z⟩
 |bl y=>cases(show u=Value.bool y from rx);exact⟨_,kitx_bool,True.intro,λz=>nomatch z⟩
 |int i=>obtain⟨t,q⟩:=(show ∃ t,u=Value.int i t from rx);cases q;exact⟨_,kitx_int,True.intro,λz=>nomatch z⟩
 |str y=>obtain⟨t,q⟩:=(show ∃ t,u=Value.str y t from rx);cases q;exact⟨_,kitx_str,True.intro,λz=>nomatch z⟩
 |flt y=>obtain⟨t,q⟩:=(show ∃ t,u=Value.float y t from rx);cases q;exact⟨_,kitx_float,True.intro,λz=>nomatch z⟩
 | @lst a xs ea=>
  cases(show u=Value.ref a from rx);obtain⟨_,_,n,_,h1⟩:=(show aq X.prog X.w H s.heap a (.lst xs) from I.hok a _ ea);exact⟨_,kitx_list,⟨_,h1,rfl⟩,λz=>nomatch z⟩
 | @aH a ob xs ea=>
  cases(show u=Value.ref a from rx);obtain⟨_,_,_,n,_,h1⟩:=(show aq X.prog X.w H s.heap a (.aH ob (.lst xs)) from I.hok a _ ea);exact⟨_,kitx_list,⟨_,h1,rfl⟩,λz=>nomatch z⟩
 | @tup a xs ea=>
  cases(show u=Value.ref a from rx);obtain⟨_,_,_,p⟩:=(show aq X.prog X.w H s.heap a (.tup xs) from I.hok a _ ea);obtain⟨o,h1,h2,_⟩:=p;exact⟨_,kitx_tuple,⟨o,h1,h2⟩,λz=>nomatch z⟩
 | @dK a kvs ea=>
  cases(show u=Value.ref a from rx);obtain⟨_,_,vs,_,p⟩:=(show aq X.prog X.w H s.heap a (.dK kvs) from ea.ok I.hok);obtain⟨o,es,ep,h1,h2,_⟩:=p;exact⟨_,kitx_dict,⟨o,h1,h2.1⟩,λz=>nomatch z⟩
 | @dT a kvs ea=>
  cases(show u=Value.ref a from rx);obtain⟨_,_,xs,_,o,es,ep,h1,h2,_⟩:=(show aq X.prog X.w H s.heap a (.dT kvs) from I.hok a _ ea);exact⟨_,kitx_dict,⟨o,h1,h2.1⟩,λz=>nomatch z⟩
 | @ins a C dx fs ea cl ha hn htk hm=>
  cases(show u=Value.ref a from rx);obtain⟨mA,O,_⟩:=dF I.hok ea;obtain⟨od,J,_⟩:=O.look;exact⟨_,kitx_own (cl.get _) cl.hd ha hn htk hm,J,λz=>nomatch z⟩
def ki {E:GC}{Q:GC}{u t:Value}{p:Addr}{cs:List Addr}{b:Bool}{P:Heap->Prop}(I:Inv X Y U H s)(Z:KitX X.K u t P)(hp:P s.heap)(hx:u≠.builtin "__main__.__loader__#opaque")
  (ep:H p=some (.tup (cs.map V.ref))) (e:kitAny X.K t (cs.map Value.ref)=some b) (h:∀ tk,Q (.bool b) { s with toks:=tk }):wpAny (model X.prog X.w) A (call (.builtin "isinstance") [u,.ref p]) Q E s:=by
 obtain⟨its,r,pl,_⟩:=I.tuple (bF.of ep);have er:∀ {cs:List Addr}{us:List Value},Vals (cs.map V.ref) us->us=cs.map Value.ref:=by
  intro cs
  induction cs with
  |nil=>intro us h;cases h;rfl
  |cons c cs ih=>
   intro us h;cases h with
   |cons r1 r2=>
    rw[ih r2,show _=Value.ref c from r1]
    rfl
 obtain rfl:=er r;obtain⟨⟨c,d,da,sl⟩,h1,h2,n,h3⟩:=(show s.heap.IsTuple p (cs.map Value.ref).toArray from pl);subst h2;obtain rfl:=h3;exact kia_tup Z I.bp hp h1 e hx h
end
def qu:∀ {ns:List Int}{us:List Value},Vals (ns.map V.int) us->∃ xs:List (Int×Tok),us=xs.map (λp=>Value.int p.1 p.2)/\xs.map (·.1)=ns
 | [],_,h=>by cases h;exact⟨[],rfl,rfl⟩
 |n::ns,_,h=>by
  cases h with
  |cons r1 r2=>
   obtain⟨t,rfl⟩:=r1;obtain⟨xs,rfl,e⟩:=qu r2;exact⟨(n,t)::xs,rfl,by simp[e]⟩
def CT (d:Addr)(hd:(d ==sysModules)=false)(dd:Option Addr)(ep:Nat)(sl:Array (Option Value)):Meets (Builtin.«dict.__eq__» ⟨[.ref d,.ref d],[]⟩) (λ_ R s=>s.heap.get? d=some ⟨.type "dict",dd,.dict #[] ep,sl⟩/\R (.ok (.ret (.bool true))) s):=by
 intro prog w A R s hs;obtain⟨h,g,dp,tt,os⟩:=s;obtain⟨ho,q⟩:=hs;have hT:(⟨h,g,dp,tt,os⟩:Shared).TypeIs (.ref d) "dict":=⟨_,ho,rfl⟩;unfold Builtin.«dict.__eq__»
 k_delta "equality"
 unfold Builtin.Dict.dictSlotArgs;refine ad (ad (wpAny_notOrdered_dict hT ?_));show wpAny _ _ (pure (Value.ref d,[Value.ref d]) >>= _) _ _ _;refine ad (am (am ?_));have hi:=PySem.F.kt_sub_dict;show wpAny _ _ (isInstance (.ref d) (.type "dict") >>= _) _ _ _;unfold Builtin.Dict.samePairs;simp only[Std.Legacy.Range.forIn_eq_forIn_range']
 repeat(any_goals first|assumption|wp_step)
variable {s:Shared}{dd:Option Addr}{sl:Array (Option Value)}
def C1 (hd:(d ==sysModules)=false){ep:Nat}(ho:s.heap.get? d=some ⟨.type "dict",dd,.dict #[] ep,sl⟩) (hu:A.units<cLine):SeqAt.RcAt A s (.ref d) (.ref d) true:=λprog w E Q h=>
 richCompare_meets_room (op:=.Eq) ⟨_,ho,rfl⟩ ⟨_,ho,rfl⟩ PySem.F.slot_dict_eq PySem.F.entry_dict_eq (PySem.F.args_dict_eq_2 _ _) (CT d hd dd ep sl) ⟨ho,show Value.bool true≠Value.notImplemented/\Q (.bool true) s from⟨(λx=>nomatch x),h⟩⟩ hu
abbrev sY (K:W.Frag)(H:Hp)(a:Addr):Prop:=(∃ xs,aF K H a xs)\/(∃ xs,bF K H a xs)\/H a=some (.dK [])
variable {X:Cx}{Y:GD}
def xi {U:St}{H:Hp}{a:Addr}(I:Inv X Y U H s)(h:sY X.K H a)(hu:A.units+2<cLine):SeqAt.RcAt A s (.ref a) (.ref a) true:=by
 rcases h with⟨xs,h⟩|⟨xs,h⟩|h
 .obtain⟨ia,ra,pa,_⟩:=I.list h;have rc:=SeqAt.RcAt.lists (A:=A) (e:=λ_=>true) pa.isList pa.isList rfl nofun λj h1 h2=>SeqAt.EqAt.same _
  have e:(List.range ia.toArray.size).all (λ_=>true)=true:=by simp
  rwa [e]at rc
 .obtain⟨ia,ra,pa,_⟩:=I.tuple h;have rc:=SeqAt.RcAt.tuples (A:=A) (e:=λ_=>true) (show s.heap.IsTuple a ia.toArray from pa) (show s.heap.IsTuple a ia.toArray from pa) nofun λj h1 h2=>SeqAt.EqAt.same _
  have e:((List.range (min ia.toArray.size ia.toArray.size)).all (λ_=>true)&&ia.toArray.size ==ia.toArray.size)=true:=by simp
  rwa [e]at rc
 .obtain⟨z,hd,vs,rel,dd⟩:=gd I.hok (.inl h);cases rel;obtain⟨⟨c,d,da,sl⟩,es,ep,ho,hx,he,_,hp,_⟩:=dd;have e0:es=#[]:=by
   cases hp':es.toList with
   |nil=>exact Array.toList_eq_nil_iff.mp hp'
   |cons a b=>rw[hp']at hp;cases hp
  subst e0;obtain rfl:da=.dict #[] ep:=he;obtain⟨rfl,_⟩:=hx;exact C1 hd ho nofun
section
variable {prog:Program}{w:World}{A:Around}{E:GC}{s:Shared}{T:String}{r d:Addr}{n:Nat}{P:Nat->Value->Prop}{OK:Heap->Prop}
end
abbrev nv (tp:Bool):String:=match tp with
 |true=>"tuple"
 |false=>"list"
abbrev tL (K:W.Frag)(C:Addr):Bool:=findIn K (.ref C) "__eq__" ==some (some (.builtin "object.__eq__"))&&subIn K (.ref C) (.type "str") ==some false&&subIn K (.ref C) (.type "object") ==some true
def nR {prog:Program}{w:World}{K:Frag}{C:Addr}{R:Result->Shared->Prop}(X:K.In s.heap)(hm:makesIn K C=true)(hi:findIn K (.ref C) "__init__"=some (some (.builtin "object.__init__")))
  (h:R (.ok (.ret (.ref (s.heap.objs.size+1)))) { s with heap:=(s.heap.push emptyDict).push (instObj C s.heap.objs.size) }):codeAny (model prog w) A (.call (.ref C) ⟨[],[]⟩) R s:=by
 obtain⟨hh,g,d,t,os⟩:=s;have Y:=makes_of (M:=model prog w) X hm;refine make_core Y (looks_findIn X hi) (λz=>Looks.of_pure (oi_bind z)) (.inr ⟨rfl,rfl⟩) ?_;have k:∀ b o,hh.get? b=some o->((hh.push emptyDict).push (instObj C hh.objs.size)).get? b=some o:=λb o e=>sw _ (sw _ e)
 have hx:((hh.push emptyDict).push (instObj C hh.objs.size)).get? (hh.objs.size+1)=some (instObj C hh.objs.size):=by heap_get
 have t1:Looks (model prog w) ((hh.push emptyDict).push (instObj C hh.objs.size)) (typeOf (.ref (hh.objs.size+1))) (.ref C):=Looks.andThen (Looks.ld hx) .now;have t2:Looks (model prog w) ((hh.push emptyDict).push (instObj C hh.objs.size)) (isInstance (.ref (hh.objs.size+1)) (.type "object")) true:=t1.andThen (Y.top.keeps k);refine codeAny_call_builtin oi_plain entry_oi (@check_slot (model prog w) _ _ _ "object.__init__" "object" "__init__" (.ref (hh.objs.size+1)) [] [] _ oi_kind oi_split t2 (oi_args _) ?_);rw[oi_run];exact am ⟨rfl,h⟩
structure Fc (K:Frag) (C:Addr):Prop where
 makes:makesIn K C=true
 init:findIn K (.ref C) "__init__"=some (some (.builtin "object.__init__"))
 kp:keepIn K (.ref C)=true
abbrev Ep (C:Addr):TE:=λ_ H Q=>∀ x dx,H x=none->H dx=none->dx≠x->Q (.ref x) (upd (upd H dx (.own x)) x (.ins C dx []))
variable {pos:Pos}
def vP {C:Addr}{x:Str}{p:Pos}(M:Fc X.K C)(hg:Gl X x)(hm:X.mg x=some (.ref C))(hdb:(x ==("__debug__":Str))=false):PE X (.Call (.Name x p) [] [] pos) (Ep C):=by
 intro Y s U H Q I h;refine bv (aY I hg hm ?_ hdb);refine W.callWith_K0 I.bp M.kp (wpAny_call (nR I.bp M.makes M.init ?_));have I2:=Inv.made (C:=C) I;exact⟨.ref (s.heap.objs.size+1),_,I2,rfl,h (s.heap.objs.size+1) s.heap.objs.size (I.hok.fresh (Nat.le_succ _)) (I.hok.fresh (pi _)) (pc (Nat.lt_succ_self _))⟩
@[reducible]def VV:List (V×V)->List (Value×Value)->Prop:=Paired λp q=>RelV p.1 q.1/\RelV p.2 q.2
abbrev PQ (X:Cx)(pos:Pos)(keys:List (Option Expr))(values:List Expr)(t:St->Hp->(List (V×V)->Hp->Prop)->Prop):Prop:=
 ∀ (Y:GD) (s:Shared) (U:St) (H:Hp) (Q:List (V×V)->Hp->Prop),Inv X Y U H s->t U H Q->
  wpAny (model X.prog X.w) X.A (evalPairs (pairTrees keys values X.env pos)) (λvs s'=>∃ ps H',Inv X Y U H' s'/\VV ps vs/\Q ps H') X.xe s
def zU:PQ X pos [] [] (λ_ H Q=>Q [] H):=λY s U H Q I h=>pairTrees_nil_walk ⟨[],H,I,.nil,h⟩
def wA {k v:Expr}{ks:List (Option Expr)}{vs:List Expr}{tk tv:TE}{t:St->Hp->(List (V×V)->Hp->Prop)->Prop}(hk:PE X k tk)(hv:PE X v tv)(hr:PQ X pos ks vs t):
  PQ X pos (some k::ks) (v::vs) (λU H Q=>tk U H λx H1=>tv U H1 λy H2=>t U H2 λps H3=>Q ((x,y)::ps) H3):=λY s U H Q I h=>
 pairTrees_cons_walk (aB (hk Y s U H _ I h) λu s1 ⟨x,H1,I1,rx,q1⟩=>aB (hv Y s1 U H1 _ I1 q1) λw2 s2 ⟨y,H2,I2,ry,q2⟩=>
  aB (hr Y s2 U H2 _ I2 q2) λws s3 ⟨ps,H3,I3,rel,q3⟩=>⟨(x,y)::ps,H3,I3,.cons ⟨rx,ry⟩ rel,q3⟩)
abbrev nU (K:W.Frag)(C:Addr):Bool:=findIn K (.ref C) "__ne__" ==some (some (.builtin "object.__ne__"))&&tL K C
section
variable {A:Around}{s:Shared}{l C dx:Addr}{od:Option Obj}{K:W.Frag}{prog:Program}{w:World}{E:GC}
def DC (X:K.In s.heap)(I:InstAt s.heap l (instObj C dx) C od)(h1:findIn K (.ref C) "__eq__"=some (some (.builtin "object.__eq__"))) (h3:subIn K (.ref C) (.type "object")=some true) (h:Q (some (.bool true)) s):wpAny (model prog w) A (callSpecialIfBound? (.ref l) "__eq__" [.ref l]) Q E s:=by
 simp only[callSpecialIfBound?,bindSpecialIfBound?];refine bd (ad (ad (ad (I.type.here ((looks_findIn X h1).here ?_)))));simp only[PySem.F.cmp_object.eq.bind];have fin:wpAny (model prog w) A (call (.builtin "object.__eq__") ([.ref l]++[.ref l]) >>= λv=>pure (some v)) Q E s:=by
  refine ad (wpAny_call (codeAny_call_builtin PySem.F.cmp_object.eq.plain PySem.F.cmpEntry_eq ?_));simp only[checkBuiltinCall,PySem.F.cmpKind_eq,PySem.F.cmpSplit_eq];refine ad (ad (I.type.here ((looks_subIn X h3).here ?_)));rw[if_neg (by simp)];have ha:=PySem.F.cmpArgs_eq (.ref l) (.ref l);have h0:(match Manifest.signature? "object.__eq__" with|some sig=>Bind.checkArgs "object.__eq__" sig { pos:=[Value.ref l]++[Value.ref l] }|x=>pure ())=pure ():=ha;refine wpAny_of_eq h0 ?_;exact objEq_entry_same (am h)
 refine ad (wpAny_askSetting (wpAny_ite ?_))
 split
 .exact ad (am (am fin))
 .exact wpAny_tryCatch (ad (am (am fin)))
def DI (X:K.In s.heap)(I:InstAt s.heap l (instObj C dx) C od)(h1:findIn K (.ref C) "__eq__"=some (some (.builtin "object.__eq__"))) (h2:findIn K (.ref C) "__ne__"=some (some (.builtin "object.__ne__"))) (h3:subIn K (.ref C) (.type "object")=some true) (hu:A.units+2<cLine) (h:Q (some (.bool false)) s):wpAny (model prog w) A (callSpecialIfBound? (.ref l) "__ne__" [.ref l]) Q E s:=by
 simp only[callSpecialIfBound?,bindSpecialIfBound?];refine bd (ad (ad (ad (I.type.here ((looks_findIn X h2).here ?_)))));simp only[PySem.F.cmp_object.ne.bind];have fin:wpAny (model prog w) A (call (.builtin "object.__ne__") ([.ref l]++[.ref l]) >>= λv=>pure (some v)) Q E s:=by
  refine ad (wpAny_call (codeAny_call_builtin PySem.F.cmp_object.ne.plain PySem.F.cmpEntry_ne ?_));simp only[checkBuiltinCall,PySem.F.cmpKind_ne,PySem.F.cmpSplit_ne];refine ad (ad (I.type.here ((looks_subIn X h3).here ?_)));rw[if_neg (by simp)];have ha:=PySem.F.cmpArgs_ne (.ref l) (.ref l);have h0:(match Manifest.signature? "object.__ne__" with|some sig=>Bind.checkArgs "object.__ne__" sig { pos:=[Value.ref l]++[Value.ref l] }|x=>pure ())=pure ():=ha;refine wpAny_of_eq h0 ?_;unfold Builtin.«object.__ne__»;show wpAny _ _ (pure (Value.ref l,[Value.ref l]) >>= _) _ _ _;refine ad (am ?_);refine ad (wpAny_cRoomFor (show A.units+1<cLine by omega) ?_);refine ad (DC X I h1 h3 ?_);refine ad (bi ?_);exact am (am h)
 refine ad (wpAny_askSetting (wpAny_ite ?_))
 split
 .exact ad (am (am fin))
 .exact wpAny_tryCatch (ad (am (am fin)))
def rg (X:K.In s.heap)(I:InstAt s.heap l (instObj C dx) C od)(hC:nU K C=true)(hu:A.units+3<cLine):SeqAt.RcNeAt A s (.ref l) (.ref l) false:=λprog w E Q h=>by
 unfold nU tL at hC;simp only[lw,beq_iff_eq]at hC;obtain⟨h0,⟨h1,h2⟩,h3⟩:=hC;simp only[richCompare,PySem.cmpInfo_NotEq]
 try with_reducible refine bd ?_
 refine ad (wpAny_cRoomFor nofun ?_);show wpAny _ _ (typeOf (Value.ref l) >>= _) _ _ _;refine ad (I.type.here (ad (I.type.here ?_)));rw[if_neg (by simp)];refine ad (am ?_);rw[if_neg (by simp)];refine ad ?_;simp only[tryCompare];refine ad (DI X I h1 h0 h3 nofun ?_);exact am (am h)
def Cw (d:Addr)(hd:(d ==sysModules)=false)(dd:Option Addr)(ep:Nat)(sl:Array (Option Value)):Meets (Builtin.«dict.__ne__» ⟨[.ref d,.ref d],[]⟩) (λ_ R s=>s.heap.get? d=some ⟨.type "dict",dd,.dict #[] ep,sl⟩/\R (.ok (.ret (.bool false))) s):=by
 intro prog w A R s hs;obtain⟨h,g,dp,tt,os⟩:=s;obtain⟨ho,q⟩:=hs;have hT:(⟨h,g,dp,tt,os⟩:Shared).TypeIs (.ref d) "dict":=⟨_,ho,rfl⟩;unfold Builtin.«dict.__ne__»
 k_delta "equality"
 unfold Builtin.Dict.dictSlotArgs;refine ad (ad (wpAny_notOrdered_dict hT ?_));show wpAny _ _ (pure (Value.ref d,[Value.ref d]) >>= _) _ _ _;refine ad (am (am ?_));have hi:=PySem.F.kt_sub_dict;show wpAny _ _ (isInstance (.ref d) (.type "dict") >>= _) _ _ _;unfold Builtin.Dict.samePairs;simp only[Std.Legacy.Range.forIn_eq_forIn_range']
 repeat(any_goals first|assumption|wp_step)
def xS (hd:(d ==sysModules)=false){ep:Nat}(ho:s.heap.get? d=some ⟨.type "dict",dd,.dict #[] ep,sl⟩) (hu:A.units<cLine):SeqAt.RcNeAt A s (.ref d) (.ref d) false:=λprog w E Q h=>
 richCompare_meets_room (op:=.NotEq) ⟨_,ho,rfl⟩ ⟨_,ho,rfl⟩ PySem.F.slot_dict_ne PySem.F.entry_dict_ne (PySem.F.args_dict_ne_2 _ _) (Cw d hd dd ep sl) ⟨ho,show Value.bool false≠Value.notImplemented/\Q (.bool false) s from⟨(λx=>nomatch x),h⟩⟩ hu
abbrev t6 (K:W.Frag)(H:Hp)(a:Addr):Prop:=(∃ xs,bF K H a xs)\/H a=some (.dK [])\/(∃ C dx fs,H a=some (.ins C dx fs)/\nU K C=true)\/∃ xs,aF K H a xs
def xA {U:St}{H:Hp}{a:Addr}(I:Inv X Y U H s)(h:t6 X.K H a)(hu:A.units+3<cLine):SeqAt.RcNeAt A s (.ref a) (.ref a) false:=by
 rcases h with⟨xs,h⟩|h|⟨C,dx,fs,h,hn⟩|⟨xs,h⟩
 .obtain⟨ia,ra,pa,_⟩:=I.tuple h;have rc:=SeqAt.RcNeAt.tuples (A:=A) (e:=λ_=>true) (show s.heap.IsTuple a ia.toArray from pa) (show s.heap.IsTuple a ia.toArray from pa) nofun λj h1 h2=>SeqAt.EqAt.same _
  have e:((List.range (min ia.toArray.size ia.toArray.size)).all (λ_=>true)&&ia.toArray.size ==ia.toArray.size)=true:=by simp
  rw[e]at rc;exact rc
 .obtain⟨z,hd,vs,rel,dd⟩:=gd I.hok (.inl h);cases rel;obtain⟨⟨c,d,da,sl⟩,es,ep,ho,hx,he,_,hp,_⟩:=dd;have e0:es=#[]:=by
   cases hp':es.toList with
   |nil=>exact Array.toList_eq_nil_iff.mp hp'
   |cons a b=>rw[hp']at hp;cases hp
  subst e0;obtain rfl:da=.dict #[] ep:=he;obtain⟨rfl,_⟩:=hx;exact xS hd ho nofun
 .obtain⟨mA,o,_⟩:=dF I.hok h;obtain⟨od,i,_⟩:=o.look;exact rg I.bp i hn hu
 .obtain⟨ia,ra,pa,_⟩:=I.list h;have rc:=SeqAt.RcNeAt.lists (A:=A) (e:=λ_=>true) pa.isList pa.isList rfl nofun λj h1 h2=>SeqAt.EqAt.same _
  have e:(List.range ia.toArray.size).all (λ_=>true)=true:=by simp
  rw[e]at rc;exact rc
end
end L2
namespace L2
open PySem PySem.Spec PyProof.Rows
section
variable {X:Cx}{tg:Expr}
end
end L2
namespace L2
open PySem PySem.Spec PySem.W PyProof.Rows
open PySem.AutoSeq1 (wpAny_loadPart')
section
variable {prog:Program}{w:World}{A:Around}{E:GC}{s:Shared}
end
section
variable {X:Cx}{Y:GD}{U:St}{H:Hp}{s:Shared}
end
def qx {X:Cx}(hc:X.calm=true):bZ X (.builtin "sum") (λxs H Q=>∃ p,∃ (ns:List Int),xs=[.ref p]/\aF X.K H p (ns.map V.int)/\Q (.int ns.sum) H):=by
 intro Y s U H xs us Q I r h;obtain⟨p,ns,rfl,hq,q⟩:=h;obtain⟨u,rfl,rx⟩:=vals1 r;cases rx;obtain⟨its,r',pl,hz⟩:=I.list hq;obtain⟨ps,rfl,en⟩:=qu r';have hL:s.heap.IsList p (intItems ps.toArray):=by
  have:=pl.isList;simpa[intItems] using this
 refine sum_intListG (I.ok.hd hc) hL λh' tk t' hk=>?_
 have e2:preSum (numAt ps.toArray) ps.toArray.size=ns.sum:=by
  rw[preSum_eq,take_of_length_le (by simp),<-en]
 rw[e2];exact⟨.int ns.sum,H,I.kept hk,⟨_,rfl⟩,q⟩
section
variable {prog:Program}{w:World}{A:Around}{E:GC}{s:Shared}
variable {z TI TO i1 i2 i3 l1 l2 l3:Addr}{k1 k2 k3:Nat}{tp1 tp2 tp3:Bool}{xs ys zs:Array Value}{x y v a b c f1:Value}
end
def nQ:∀ n:Nat,(List.range n).map (λ(k:Nat)=>(((n:Int)-1+ -1*(k:Int)).toNat:Nat))=(List.range n).reverse:=λn=>by
 refine List.ext_getElem (by simp) λi h1 h2=>?_
 simp only[ce,length_range]at h1;simp only[List.getElem_map,List.getElem_range,List.getElem_reverse,length_range]
 omega
def vy (its:List Value):(List.range its.length).filterMap (λx=>its.toArray[x]?)=its:=by
 have h:=pick_run its.toArray 0 its.length;simpa using h
def i8 (its:List Value):slicePick its.toArray none none (some (-1))=its.reverse.toArray:=by
 have hb:sliceBounds none none (some (-1)) its.toArray.size=((its.length:Int)-1,-1,-1):=by simp[sliceBounds]
 have hr:sliceRange ((its.length:Int)-1) (-1) (-1)=(List.range its.length).reverse:=by
  unfold sliceRange;rw[<-nQ];have hc:(if(-1:Int)>0 then(if(its.length:Int)-1< -1 then(-1-((its.length:Int)-1)+ -1-1) / (-1) else 0) else if(its.length:Int)-1> -1 then((its.length:Int)-1-(-1)-(-1)-1) / (-(-1)) else 0).toNat=its.length:=by
   rw[if_neg (by decide)]
   by_cases h:(its.length:Int)-1> -1
   .rw[if_pos h,show(-(-1):Int)=1 from rfl,Int.ediv_one]
    omega
   .rw[if_neg h]
    omega
  dsimp only;rw[hc]
 unfold slicePick;rw[hb];dsimp only;rw[hr,List.filterMap_reverse,vy]
variable {X:Cx}{e es:Expr}{te:TE}{ts:TO}{p2 pos:Pos}
abbrev Ef (K:W.Frag)(te:TE)(ts:TO):TE:=λU H Q=>te U H λx H1=>ts U H1 λo H2=>o=some (-1)/\∃ a xs,x=.ref a/\aF K H2 a xs/\∀ p,H2 p=none->Q (.ref p) (upd H2 p (.lst xs.reverse))
def BG (he:PE X e te)(hs:PO X (some es) ts):PE X (.Subscript e (.Slice none none (some es) p2) pos) (Ef X.K te ts):=by
 intro Y s U H Q I h;refine Subscript_ (aB (he Y s U H _ I h) λv s1 ⟨x,H1,I1,r1,q1⟩=>?_);refine wpAny_Slice ?_;rw[evalPart_none];refine am (am (aB (hs Y s1 U H1 _ I1 q1) λvt s3 ⟨o,H3,I3,pt,q3⟩=>?_));obtain⟨rfl,a,xs,rfl,hx,q⟩:=q3;have I4:Inv X Y U H3 { s3 with heap:=s3.heap.push { cls:=.type "slice",data:=.fields #[.none,.none,vt] } }:=I3.kept (t':=s3.toks) λb ob q=>sw _ q
 show wpAny (model X.prog X.w) X.A (subscriptTail e (.Slice none none (some es) p2) v (.ref s3.heap.objs.size)) (EP X Y U Q) X.xe { s3 with heap:=s3.heap.push { cls:=.type "slice",data:=.fields #[.none,.none,vt] } };cases r1;obtain⟨its,r,ht,hz⟩:=I4.list hx;have hlen:=r.length;refine tail_any (ops:=[.ref a,.ref s3.heap.objs.size]) ht.isList.typeIs slot_list_getitem.lookup ?_ (by with_unfolding_all rfl);refine wpAny_getItem_list_slice ht.isList (Heap.IsSliceOf.new ..) .none .none pt (by simp) ?_ (by rw[ge]<;>omega);rw[i8];refine⟨.ref _,_,I4.laid (t':=s3.toks) (o:=.lst xs.reverse) (λb ob q=>sw _ q) (pi _) ?_,rfl,q _ (I4.hok.fresh (pi _))⟩;exact⟨by rw[List.length_reverse];exact hz,_,0,r.reverse,tz _ rfl⟩
def pY:∀ {xs:List V}{us:List Value},xs.length=us.length->(∀ (j:Nat) (x:V) (u:Value),xs[j]? =some x->us[j]? =some u->RelV x u)->Vals xs us
 | [],[],_,_=>.nil
 |x::xs,u::us,e,h=>.cons (h 0 x u rfl rfl) (pY (Nat.succ.inj e) λj a b e1 e2=>h (j+1) a b e1 e2)
def kC:∀ {kvs:List (Key×V)}{vs:List (Key×Value)},KV kvs vs->kvs.map (·.1)=vs.map (·.1)
 |_,_,.nil=>rfl
 |_,_,.cons r rs=>by rw[map_cons,map_cons,r.1,kC rs]
def nD {Y:GD}{U:St}{H:Hp}{s:Shared}{Q:VK}{d:Addr}{kvs:List (Key×V)}(hc:X.calm=true)(I:Inv X Y U H s)(e:Rd H d (.dK kvs))(q:∀ p,H p=none->Q (.ref p) (upd H p (.lst (kvs.map (λkv=>kV kv.1))))):
  wpAny (model X.prog X.w) X.A (call (.type "list") [.ref d]) (EP X Y U Q) X.xe s:=by
 obtain⟨hz,hd,vs,rel,dd⟩:=gd I.hok e;obtain⟨o,es,ep,ho,hx,he,hk,hp,hn⟩:=dd;have hA:s.heap.DictAt (aI X.prog X.w) d vs ep:=⟨o,es,ho,hx,he,hk,hp,hn⟩;have hl:vs.length<=bn:=by rw[<-rel.length];exact hz
 refine kdl_call (kdl_dict hd) (I.ok.hd hc) hA hl λh' tk acc c' hk' hD hi=>?_
 have r:Vals (kvs.map (λkv=>kV kv.1)) acc.toList:=pY ((ce ..).trans (rel.length.trans (hi.1.symm.trans Array.length_toList.symm))) λj x u e1 e2=>by
  rw[io]at e1;obtain⟨⟨k,y⟩,ek,rfl⟩:=mo.mp e1;obtain⟨k',y',ek',hs⟩:=hi.2 j u (by rw[<-Array.getElem?_toList];exact e2);have ekk:k=k':=by
   have h2:(kvs.map (·.1))[j]? =(vs.map (·.1))[j]? :=by rw[kC rel]
   rw[io,io,ek,ek']at h2;exact Option.some.inj h2
  subst ekk;rcases av hs with⟨i,t,rfl,rfl⟩|⟨z,t,rfl,rfl⟩
  .exact⟨t,rfl⟩
  .exact⟨t,rfl⟩
 exact⟨.ref _,_,I.laid (t':=tk) hk' (pi _) (show aq X.prog X.w _ h' _ (.lst (kvs.map (λkv=>kV kv.1))) from⟨by rw[ce];exact hz,acc.toList,c',r,by rw[Array.toArray_toList];exact hD⟩),rfl,q _ (I.hok.fresh (pi _))⟩
end L2
namespace L2
open PySem PySem.Spec PyProof.Rows
abbrev yE (z:Str):It:=⟨λi _=>i<z.cps.size,λi H x H'=>H'=H/\∃ c,z.cps[i]? =some c/\x=.str ⟨#[c]⟩,λi _=>z.cps.size<=i⟩
variable {P:Program}{w:World}{K:W.Frag}{tg:Expr}
def vF (it:Addr)(z:Str)(t:Tok):Turn P w K tg (yE z) [it] it (λi h=>h.IsStrIter it (strIterType z) z t i) where
 mem:=by simp
 obj:=λi h st b hb=>by
  have e:b=it:=by simpa using hb
  subst e;obtain⟨o,e,c,d⟩:=st;exact⟨o,e,λv z=>by rw[d]at z;cases z⟩
 keep:=λi h h' st k=>let⟨o,ho,r⟩:=st;⟨o,k it (by simp) o ho,r⟩
 item:=by
  intro X hP hw hK hc i Y s U H E I hf st hg;subst hP hw hK;obtain⟨f0,f1,f2,f3,f4,f5⟩:=hf it (by simp);have go:∀ T,(T="str_ascii_iterator"\/T="str_iterator")->strIterType z=T->wpAny (model X.prog X.w) X.A (pyNext (.ref it)) (λr s1=>∃ u,r=some u/\
   wpAny (model X.prog X.w) X.A (letOwnedTupleGo tg (.ref it) u) (λ_ s2=>∃ x H',Inv X Y U H' s2/\RelV x u/\(yE z).yld i H x H'/\s2.heap.IsStrIter it (strIterType z) z t (i+1)/\∀ b ∈ [it],H' b=none) E s1) E s:=by
   intro T hT eT;rw[eT]at st⊢;have fin:∀ v h' tk,SignAt z i v->h'.IsStrIter it T z t (i+1)->(∀ b o,b ∉ [it]->s.heap.get? b=some o->h'.get? b=some o)->∃ u,some v=some u/\
    wpAny (model X.prog X.w) X.A (letOwnedTupleGo tg (.ref it) u) (λ_ s2=>∃ x H',Inv X Y U H' s2/\RelV x u/\(yE z).yld i H x H'/\s2.heap.IsStrIter it T z t (i+1)/\∀ b ∈ [it],H' b=none) E { s with heap:=h',toks:=tk }:=by
    intro v h' tk hv st' kk;obtain⟨c,u,hc',rfl⟩:=hv;have I1:Inv X Y U H { s with heap:=h',toks:=tk }:=I.turned (λb o hb e=>kk b o (by simpa using hb) e) f0 f1 f3 f4 f5;obtain⟨o,e,cc,d⟩:=id st';exact⟨_,rfl,lN (s:={ s with heap:=h',toks:=tk }) e cc d (by rcases hT with rfl|rfl<;>decide) ⟨.str ⟨#[c]⟩,H,I1,⟨u,rfl⟩,⟨rfl,c,hc',rfl⟩,st',λb hb=>(hf b hb).1⟩⟩
   rcases hT with rfl|rfl
   .exact(Walks.strAscii (prog:=X.prog) (w:=X.w) (I.ok.hd hc) it z t).item i s _ _ hg st fin
   .exact(Walks.strWide (prog:=X.prog) (w:=X.w) (I.ok.hd hc) it z t).item i s _ _ hg st fin
  have hz:strIterType z="str_ascii_iterator"\/strIterType z="str_iterator":=by unfold strIterType;split<;>simp
  exact go _ hz rfl
 done:=by
  intro X hP hw hK hc i Y s U H E I hf st hg;subst hP hw hK;obtain⟨f0,f1,f2,f3,f4,f5⟩:=hf it (by simp);have hx:z.cps[i]? =none:=Array.getElem?_eq_none hg;have fin:∀ h',Heap.ExtBut it s.heap h'->(none:Option Value)=none/\Inv X Y U H { s with heap:=h' }:=λh' eb=>⟨rfl,I.turned (t':=s.toks) (λb o hb e=>eb b o hb e) f0 f1 f3 f4 f5⟩
  unfold strIterType at st
  split at st
  .exact wpAny_pyNext_ascii_end (I.ok.hd hc) st hx fin
  .exact wpAny_pyNext_wide_end (I.ok.hd hc) st hx fin
 self:=λ_ _ _ _ _ st h=>by
  unfold strIterType at st
  split at st
  .exact wpAny_pyIter_striter_ascii st h
  .exact wpAny_pyIter_striter_wide st h
variable {X:Cx}{Y:GD}{U:L2.St}{H1:Hp}{s1:Shared}{R:It->Hp->Prop}{v:Value}
def vi {z:Str}(I1:Inv X Y U H1 s1)(r:RelV (.str z) v)(q:R (yE z) H1):
  wpAny (model X.prog X.w) X.A (pyIter v) (Ae X Y U tg R) X.xe s1:=by
 obtain⟨t,rfl⟩:=r;refine wpAny_pyIter_strU ?_;refine⟨s1.heap.objs.size,[s1.heap.objs.size],_,_,H1,rfl,I1.kept (t':=s1.toks) λb o e=>sw _ e,vF _ z t,⟨_,tz _ rfl,rfl,rfl⟩,λb hb=>?_,q⟩;have e:b=s1.heap.objs.size:=by simpa using hb
 subst e;exact I1.rh (pi _) (I1.hok.fresh (pi _))
abbrev yR (d:Addr)(o:Obj)(kvs:List (Key×V)):It:=⟨λi H=>i<kvs.length/\H d=some (.aH o (.dK kvs)),λi H x H'=>H'=H/\∃ kv,kvs[i]? =some kv/\x=kV kv.1,λi H=>kvs.length<=i/\H d=some (.aH o (.dK kvs))⟩
variable {d:Addr}{kvs:List (Key×V)}
def nj {H:Hp}{h:Heap}{o:Obj}(ok:dJ P w H h)(e:H d=some (.aH o (.dK kvs))):∃ vs es ep,KV kvs vs/\o.data=.dict es ep/\h.DictAt (aI P w) d vs ep:=by
 obtain⟨ho,_,_,vs,rel,o',es,ep,ho',hx,he,hk,hp,hn⟩:=(show aq P w H h d (.aH o (.dK kvs)) from ok d _ e);rw[ho]at ho';cases ho';exact⟨vs,es,ep,rel,he,o,es,ho,hx,he,hk,hp,hn⟩
def sA (d it:Addr)(o:Obj)(kvs:List (Key×V)):Turn P w K tg (yR d o kvs) [it] it (λi h=>∃ es ep,o.data=.dict es ep/\h.IsKeyIter it d i kvs.length ep) where
 mem:=by simp
 obj:=λi h st b hb=>by
  have e:b=it:=by simpa using hb
  subst e;obtain⟨_,_,_,o,e,c,d⟩:=st;exact⟨o,e,λv z=>by rw[d]at z;cases z⟩
 keep:=λi h h' ⟨es,ep,e,st⟩ k=>⟨es,ep,e,st.at λo e=>k it (by simp) o e⟩
 item:=by
  intro X hP hw hK hc i Y s U H E I hf st hg;subst hP hw hK;obtain⟨f0,f1,f2,f3,f4,f5⟩:=hf it (by simp);obtain⟨es,ep,he,st⟩:=st;obtain⟨vs,es',ep',rel,he',hA⟩:=nj I.hok hg.2;rw[he]at he';cases he';have hl:=rel.length;rw[hl]at st;obtain⟨⟨k,v⟩,hx⟩:∃ p,vs[i]? =some p:=⟨_,lf (by rw[<-hl];exact hg.1)⟩;refine wpAny_pyNext_dict_item st hA hx λkey h' hkey st' sb=>?_
  have I1:Inv X Y U H { s with heap:=h' }:=I.turned (t':=s.toks) (λb o hb e=>(sb.2 b hb).trans e) f0 f1 f3 f4 f5;obtain⟨o',e,cc,dd⟩:=id st';have hk:∃ kv,kvs[i]? =some kv/\kv.1=k:=by
   have h2:(kvs.map (·.1))[i]? =(vs.map (·.1))[i]? :=by rw[kC rel]
   rw[io,io,hx]at h2;obtain⟨kv,e1,e2⟩:=mo.mp h2;exact⟨kv,e1,e2⟩
  obtain⟨kv,e1,rfl⟩:=hk;refine⟨key,rfl,lN (s:={ s with heap:=h' }) e cc dd (by decide) ⟨kV kv.1,H,I1,?_,⟨rfl,kv,e1,rfl⟩,⟨es,ep,he,by rw[hl];exact st'⟩,λb hb=>(hf b hb).1⟩⟩;rcases av hkey with⟨j,t,e,rfl⟩|⟨z,t,e,rfl⟩
  .rw[e];exact⟨t,rfl⟩
  .rw[e];exact⟨t,rfl⟩
 done:=by
  intro X hP hw hK hc i Y s U H E I hf st hg;subst hP hw hK;obtain⟨f0,f1,f2,f3,f4,f5⟩:=hf it (by simp);obtain⟨es,ep,he,st⟩:=st;obtain⟨vs,es',ep',rel,he',hA⟩:=nj I.hok hg.2;rw[he]at he';cases he';have hl:=rel.length;rw[hl]at st;exact wpAny_pyNext_dict_end (I.ok.hd hc) st hA (List.getElem?_eq_none (by rw[<-hl];exact hg.1)) λh' eb=>⟨rfl,I.turned (t':=s.toks) (λb o hb e=>eb b o hb e) f0 f1 f3 f4 f5⟩
 self:=λ_ _ _ _ _ ⟨_,_,_,st⟩ h=>wpAny_pyIter_keyiter st h
def Inv.aH {X:Cx}{Y:GD}{U:L2.St}{H:Hp}{s:Shared}{d:Addr}{kvs:List (Key×V)}(I:Inv X Y U H s)(e:H d=some (.dK kvs)):∃ o,Inv X Y U (upd H d (.aH o (.dK kvs))) s:=by
 obtain⟨_,_,vs,rel,o,es,ep,ho,r⟩:=id (show aq X.prog X.w H s.heap d (.dK kvs) from I.hok d _ e);have ne:∀ b u,H b=some u->u≠.dK kvs->b≠d:=λb u hb hn z=>by subst z;rw[e]at hb;cases hb;exact hn rfl
 refine⟨o,I.step (h':=s.heap) (t':=s.toks) (g':=s.gens) (d':=s.drawn) (ch:=[]) (λ_ z=>nomatch z) (λb o _ _ _ e _=>e) (λb o _ _ _ e _=>⟨o.slots,e⟩) (λb o _ _ n=>by rw[ah (λz=>by subst z;rw[e]at n;cases n)];exact n) (λb o _ e=>⟨o,e⟩)
  (λb xs h=>by rw[ah (ne b _ h (λz=>by cases z))];exact h) (λb o u h=>by rw[ah (ne b _ h (λz=>by cases z))];exact h) (λb ps h=>⟨#[],by rw[ah (ne b _ h (λz=>by cases z)),h];simp⟩) (λm hm=>hm) (λb u hb=>?_) I.bare⟩
 have eo:∀ b u,H b=some u->aq X.prog X.w (upd H d (.aH o (.dK kvs))) s.heap b u:=λb u hb=>(I.hok b u hb).eo (λ_ _ _ e=>e) (λc hc=>by rw[ah (ne c _ hc (λz=>by cases z))];exact hc) (λc xs hc=>by rw[ah (ne c _ hc (λz=>by cases z))];exact hc)
 by_cases z:b=d
 .subst z;rw[ak]at hb;cases hb;exact⟨ho,eo _ _ e⟩
 .rw[ah z]at hb;exact eo b u hb
def lq {o:Obj}(I1:Inv X Y U H1 s1)(r:RelV (.ref d) v)(e:H1 d=some (.aH o (.dK kvs)))(q:R (yR d o kvs) H1):
  wpAny (model X.prog X.w) X.A (pyIter v) (Ae X Y U tg R) X.xe s1:=by
 cases r;obtain⟨vs,es,ep,rel,he,hA⟩:=nj I1.hok e;obtain⟨_,_,hd,_⟩:=(show aq X.prog X.w H1 s1.heap d (.aH o (.dK kvs)) from I1.hok d _ e);refine wpAny_pyIter_dict hd hA ?_;refine⟨s1.heap.objs.size,[s1.heap.objs.size],_,_,H1,rfl,I1.kept (t':=s1.toks) λb o e=>sw _ e,sA d _ o kvs,⟨es,ep,he,_,tz _ rfl,rfl,by rw[<-rel.length];rfl⟩,λb hb=>?_,q⟩;have e:b=s1.heap.objs.size:=by simpa using hb
 subst e;exact I1.rh (pi _) (I1.hok.fresh (pi _))
def qM (I1:Inv X Y U H1 s1)(r:RelV (.ref d) v)(e:H1 d=some (.dK kvs))(q:∀ o,R (yR d o kvs) (upd H1 d (.aH o (.dK kvs)))):
  wpAny (model X.prog X.w) X.A (pyIter v) (Ae X Y U tg R) X.xe s1:=by
 obtain⟨o,I2⟩:=I1.aH e;exact lq I2 r ak (q o)
section
variable {X:Cx}
def jF:∀ {us:List Value}{ys:List Str},Vals (ys.map V.str) us->StrsAre us ys
 |_,[],.nil=>.nil
 |_,y::ys,.cons r h=>by
  obtain⟨t,rfl⟩:=r;exact .cons y t (jF h)
abbrev rJoin (K:W.Frag):V->List V->Hp->VK->Prop:=λx vs H Q=>∃ z p,∃ ys:List Str,x=.str z/\vs=[.ref p]/\aF K H p (ys.map V.str)/\(ys.map (·.length)).sum+ys.length<=1000000/\z.length<=16/\Q (.str (Txt.join z ys)) H
def ye:zQ X "str.join" (rJoin X.K):=by
 intro Y s U H x vs v us Q I rx rv h;obtain⟨z,p,ys,rfl,rfl,hp,hw,hz,q⟩:=h;obtain⟨t,rfl⟩:=rx;cases rv with
 |cons r rv=>
  cases rv;cases r;obtain⟨its,rl,pl,_⟩:=I.list hp;exact join_listW pl.isList (by rw[List.toList_toArray];exact jF rl) hz nofun λt' k=>⟨.str _,H,I.tok _,⟨t',rfl⟩,q⟩
end
inductive d8 (K:W.Frag) (H:Hp):Nat->V->V->Bool->Prop where
 |flat {n:Nat}{x y:V}(fx:aD x=true) (fy:aD y=true):d8 K H n x y (gF x y)
 |same {n:Nat}(a:Addr):d8 K H (n+1) (.ref a) (.ref a) true
 |ll {n:Nat}{a b:Addr}{xs ys:List V}{e:Nat->Bool}(ha:aF K H a xs) (hb:aF K H b ys) (hl:xs.length=ys.length) (h:∀ j x y,xs[j]? =some x->ys[j]? =some y->d8 K H (n+1) x y (e j)):d8 K H (n+2) (.ref a) (.ref b) ((List.range xs.length).all e)
 |lln {n:Nat}{a b:Addr}{xs ys:List V}(ha:aF K H a xs) (hb:aF K H b ys) (hl:xs.length≠ys.length):d8 K H (n+2) (.ref a) (.ref b) false
 |tt {n:Nat}{a b:Addr}{xs ys:List V}{e:Nat->Bool}(ha:bF K H a xs) (hb:bF K H b ys) (h:∀ j x y,xs[j]? =some x->ys[j]? =some y->d8 K H (n+1) x y (e j)):d8 K H (n+2) (.ref a) (.ref b) ((List.range (min xs.length ys.length)).all e&&xs.length ==ys.length)
variable {A:Around}
section
variable {X:Cx}{Y:GD}{s:Shared}{U:St}{H:Hp}
def uC {y x:V}{u:Value}(ry:RelV y u)(rx:RelV x v)(fy:aD y=true)(fx:aD x=true):SeqAt.RcAt A s u v (gF y x):=by
 cases y<;>first|cases fy|skip
 all_goals (cases x<;>first|cases fx|skip)
 all_goals (first|(obtain⟨t,rfl⟩:=ry)|cases ry)
 all_goals (first|(obtain⟨t',rfl⟩:=rx)|cases rx)
 .exact SeqAt.RcAt.none_none
 .exact SeqAt.RcAt.none_bool _
 .exact SeqAt.RcAt.none_int _ _
 .exact SeqAt.RcAt.none_str _ _
 .exact SeqAt.RcAt.bool_none _
 .exact SeqAt.RcAt.bool_bool _ _
 .exact SeqAt.RcAt.bool_int _ _ _
 .exact SeqAt.RcAt.bool_str _ _ _
 .exact SeqAt.RcAt.int_none _ _
 .exact SeqAt.RcAt.int_bool _ _ _
 .exact SeqAt.RcAt.int_int _ _ _ _
 .exact SeqAt.RcAt.int_str _ _ _ _
 .exact SeqAt.RcAt.str_none _ _
 .exact SeqAt.RcAt.str_bool _ _ _
 .exact SeqAt.RcAt.str_int _ _ _ _
 .exact SeqAt.RcAt.str_str _ _ _ _
def lE {y x:V}{u:Value}(ry:RelV y u)(rx:RelV x v)(fy:aD y=true)(fx:aD x=true):SeqAt.RcNeAt A s u v (!gF y x):=by
 cases y<;>first|cases fy|skip
 all_goals (cases x<;>first|cases fx|skip)
 all_goals (first|(obtain⟨t,rfl⟩:=ry)|cases ry)
 all_goals (first|(obtain⟨t',rfl⟩:=rx)|cases rx)
 .exact SeqAt.RcNeAt.none_none
 .exact SeqAt.RcNeAt.none_bool _
 .exact SeqAt.RcNeAt.none_int _ _
 .exact SeqAt.RcNeAt.none_str _ _
 .exact SeqAt.RcNeAt.bool_none _
 .exact SeqAt.RcNeAt.bool_bool _ _
 .exact SeqAt.RcNeAt.bool_int _ _ _
 .exact SeqAt.RcNeAt.bool_str _ _ _
 .exact SeqAt.RcNeAt.int_none _ _
 .exact SeqAt.RcNeAt.int_bool _ _ _
 .exact SeqAt.RcNeAt.int_int _ _ _ _
 .exact SeqAt.RcNeAt.int_str _ _ _ _
 .exact SeqAt.RcNeAt.str_none _ _
 .exact SeqAt.RcNeAt.str_bool _ _ _
 .exact SeqAt.RcNeAt.str_int _ _ _ _
 .exact SeqAt.RcNeAt.str_str _ _ _ _
def eqv_refl (I:Inv X Y U H s):∀ {n:Nat}{x y:V}{b:Bool},d8 X.K H n x y b->x=y->b=true:=by
 intro n x y b h
 induction h with
 | @flat n x y fx fy=>
  rintro rfl;cases x<;>first|(exact absurd fx Bool.false_ne_true)|simp[gF]
 |same a=>intro _;rfl
 | @ll n a b xs ys e ha hb hl h ih=>
  intro z;cases z;have:=I.eW ha hb;subst this;rw[all_eq_true];intro j hj;have hj':j<xs.length:=mem_range.mp hj;exact ih j _ _ (lf hj') (lf hj') rfl
 |lln ha hb hl=>intro z;cases z;exact absurd (congrArg List.length (I.eW ha hb)) hl
 | @tt n a b xs ys e ha hb h ih=>
  intro z;cases z;have:=I.jQ ha hb;subst this;rw[beq_self_eq_true,Bool.and_true,Nat.min_self,all_eq_true];intro j hj;have hj':j<xs.length:=mem_range.mp hj;exact ih j _ _ (lf hj') (lf hj') rfl
def iq (I:Inv X Y U H s):∀ {n:Nat}{x y:V}{b:Bool},d8 X.K H n x y b->∀ {A:Around}{u v:Value},A.units+n<cLine->RelV x u->RelV y v->
  (SeqAt.EqAt A s u v b)/\(x=y\/SeqAt.RcAt A s u v b/\SeqAt.RcNeAt A s u v (!b)):=by
 intro n x y b h
 induction h with
 |flat fx fy=>intro A u v _ rx ry;exact⟨sQ rx ry fx fy,.inr ⟨uC rx ry fx fy,lE rx ry fx fy⟩⟩
 |same a=>intro A u v _ rx ry;cases rx;cases ry;exact⟨SeqAt.EqAt.same _,.inl rfl⟩
 | @ll n a b xs ys e ha hb hl h ih=>
  intro A u v hu rx ry;have hall:=d8.ll ha hb hl h;cases rx;cases ry
  by_cases hab:a=b
  .subst hab;have z:=eqv_refl I hall rfl;rw[z];exact⟨SeqAt.EqAt.same _,.inl rfl⟩
  obtain⟨ia,ra,pa,_⟩:=I.list ha;obtain⟨ib,rb,pb,_⟩:=I.list hb;have e1:ia.toArray.size=xs.length:=by rw[ge,ra.length]
  have e2:ib.toArray.size=ys.length:=by rw[ge,rb.length]
  have he:∀ j (h1:j<ia.toArray.size) (h2:j<ib.toArray.size),SeqAt.EqAt A.in1 s ia.toArray[j] ib.toArray[j] (e j):=λj h1 h2=>by
   obtain⟨x1,f1,r1⟩:=hE ra h1;obtain⟨y1,f2,r2⟩:=hE rb h2;exact(ih j x1 y1 f1 f2 (by show A.units+1+(n+1)<cLine;omega) r1 r2).1
  have rc:=SeqAt.RcAt.lists (A:=A) pa.isList pb.isList (by rw[e1,e2,hl]) nofun he;have rn:=SeqAt.RcNeAt.lists (A:=A) pa.isList pb.isList (by rw[e1,e2,hl]) nofun he;rw[e1]at rc rn;exact⟨SeqAt.EqAt.of_refs hab rc,.inr ⟨rc,rn⟩⟩
 | @lln n a b xs ys ha hb hl=>
  intro A u v hu rx ry;cases rx;cases ry;obtain⟨ia,ra,pa,_⟩:=I.list ha;obtain⟨ib,rb,pb,_⟩:=I.list hb;have hab:a≠b:=λz=>by subst z;exact hl (congrArg List.length (I.eW ha hb))
  have hz:(ia.toArray.size != ib.toArray.size)=true:=by
   rw[ge,ge,<-ra.length,<-rb.length];simpa using hl
  have rc:=SeqAt.RcAt.lists_lengths (A:=A) pa.isList pb.isList hz nofun;exact⟨SeqAt.EqAt.of_refs hab rc,.inr ⟨rc,SeqAt.RcNeAt.lists_lengths (A:=A) pa.isList pb.isList hz nofun⟩⟩
 | @tt n a b xs ys e ha hb h ih=>
  intro A u v hu rx ry;have hall:=d8.tt ha hb h;cases rx;cases ry
  by_cases hab:a=b
  .subst hab;have z:=eqv_refl I hall rfl;rw[z];exact⟨SeqAt.EqAt.same _,.inl rfl⟩
  obtain⟨ia,ra,pa,_⟩:=I.tuple ha;obtain⟨ib,rb,pb,_⟩:=I.tuple hb;have e1:ia.toArray.size=xs.length:=by rw[ge,ra.length]
  have e2:ib.toArray.size=ys.length:=by rw[ge,rb.length]
  have he:∀ j (h1:j<ia.toArray.size) (h2:j<ib.toArray.size),SeqAt.EqAt A.in1 s ia.toArray[j] ib.toArray[j] (e j):=λj h1 h2=>by
   obtain⟨x1,f1,r1⟩:=hE ra h1;obtain⟨y1,f2,r2⟩:=hE rb h2;exact(ih j x1 y1 f1 f2 (by show A.units+1+(n+1)<cLine;omega) r1 r2).1
  have rc:=SeqAt.RcAt.tuples (A:=A) (show s.heap.IsTuple a ia.toArray from pa) (show s.heap.IsTuple b ib.toArray from pb) nofun he;have rn:=SeqAt.RcNeAt.tuples (A:=A) (show s.heap.IsTuple a ia.toArray from pa) (show s.heap.IsTuple b ib.toArray from pb) nofun he;rw[e1,e2]at rc rn;exact⟨SeqAt.EqAt.of_refs hab rc,.inr ⟨rc,rn⟩⟩
@[irreducible] noncomputable def cQ (K:W.Frag) (neg:Bool):R2:=λx y H Q=>∃ n b,d8 K H n x y b/\n<=100/\(aD x=true\/x≠y\/(neg=false/\∃ a,x=.ref a/\sY K H a)\/(neg=true/\∃ a,x=.ref a/\t6 K H a))/\Q (.bl (if neg then !b else b)) H
def AY (hu:X.A.units+200<cLine):bT X (compareOp .Eq) (cQ X.K false):=by
 intro Y s U H x y v u Q I rx ry h;unfold cQ at h;obtain⟨n,b,e,hn,hx,q⟩:=h;rcases(iq I e (A:=X.A) nofun rx ry).2 with z|⟨z,_⟩
 .subst z;rcases hx with hx|hx
  .have z:=eqv_refl I e rfl;have r:=uC (s:=s) (A:=X.A) rx ry hx hx;have z2:=eqv_refl I (d8.flat (K:=X.K) (H:=H) (n:=0) hx hx) rfl;rw[z2]at r;rw[z]at q;exact PySem.EqBoolInt.of_rc r ⟨.bl true,H,I,rfl,q⟩
  rcases hx with hx|⟨_,a,rfl,hs⟩|⟨hx,_⟩
  .exact absurd rfl hx
  .have z:=eqv_refl I e rfl;rw[z]at q;cases rx;cases ry;exact PySem.EqBoolInt.of_rc (xi (A:=X.A) I hs nofun) ⟨.bl true,H,I,rfl,q⟩
  .cases hx
 .exact PySem.EqBoolInt.of_rc z ⟨.bl b,H,I,rfl,q⟩
def zB (hu:X.A.units+200<cLine):bT X (compareOp .NotEq) (cQ X.K true):=by
 intro Y s U H x y v u Q I rx ry h;unfold cQ at h;obtain⟨n,b,e,hn,hx,q⟩:=h;rcases(iq I e (A:=X.A) nofun rx ry).2 with z|⟨_,z⟩
 .subst z;rcases hx with hx|hx
  .have z:=eqv_refl I e rfl;have r:=lE (s:=s) (A:=X.A) rx ry hx hx;have z2:=eqv_refl I (d8.flat (K:=X.K) (H:=H) (n:=0) hx hx) rfl;rw[z2]at r;rw[z]at q;exact PySem.EqBoolInt.of_rcne r ⟨.bl false,H,I,rfl,q⟩
  rcases hx with hx|⟨hx,_⟩|⟨_,a,rfl,hs⟩
  .exact absurd rfl hx
  .cases hx
  .have z:=eqv_refl I e rfl;rw[z]at q;cases rx;cases ry;exact PySem.EqBoolInt.of_rcne (xA (A:=X.A) I hs nofun) ⟨.bl false,H,I,rfl,q⟩
 .exact PySem.EqBoolInt.of_rcne z ⟨.bl (!b),H,I,rfl,q⟩
end
@[irreducible] noncomputable def qZ (K:W.Frag) (a b:Addr) (H:Hp) (Q:VK):Prop:=(∃ xs ys,H a=some (.lst xs)/\H b=some (.lst ys)/\xs.length+ys.length<=100000/\∀ p,H p=none->Q (.ref p) (upd H p (.lst (xs++ys))))\/uE K (.ref a) (.ref b) H Q
@[irreducible] noncomputable def wV (K:W.Frag) (a:Addr) (k:Int) (H:Hp) (Q:VK):Prop:=(∃ xs,H a=some (.lst xs)/\ -1000<=k/\k<=1000/\xs.length<=1000/\∀ p,H p=none->Q (.ref p) (upd H p (.lst (sn k.toNat xs).flatten)))\/False
abbrev Ba (K:W.Frag):R2:=λx y H Q=>match x,y with
 | .int i,.int j=>Q (.int (i+j)) H
 | .str a,.str b=>a.length+b.length<=100000/\Q (.str (a++b)) H
 | .ref a,.ref b=>qZ K a b H Q
 |_,_=>False
abbrev AS:R2:=λx y H Q=>match x,y with
 | .int i,.int j=>Q (.int (i-j)) H
 |_,_=>False
abbrev zR (K:W.Frag):R2:=λx y H Q=>match x,y with
 | .int i,.int j=>qH i j/\Q (.int (i*j)) H
 | .ref a,.int k=>wV K a k H Q
 |_,_=>False
abbrev Ao:R2:=λx y H Q=>match x,y with
 | .int i,.int j=>(0<j/\j<1073741824)/\Q (.int (i / j)) H
 |_,_=>False
abbrev Bp:R2:=λx y H Q=>match x,y with
 | .int i,.int j=>0<j/\Q (.int (i % j)) H
 |_,_=>False
abbrev BJ:R2:=λx y H Q=>match x,y with
 | .int i,.int j=>xu i j/\Q (.int (i ^ j.toNat)) H
 |_,_=>False
abbrev wN (K:W.Frag)(op:Operator):R2:=match op with
 | .Add=>Ba K
 | .Sub=>AS
 | .Mult=>zR K
 | .FloorDiv=>Ao
 | .Mod=>Bp
 | .Pow=>BJ
 |_=>λ_ _ _ _=>False
section
variable {X:Cx}
def eO {n:Nat}(h:n<=1000000):n<=bn:=by rw[sizeLine_eq];omega
def AM (op:Operator):bT X (binaryOp op) (wN X.K op):=by
 intro Y s U H x y v u Q I rx ry h;cases op with
 |Add=>
  have h':Ba X.K x y H Q:=h;unfold Ba at h'
  split at h'
  .exact Bk Y s U H _ _ v u Q I rx ry ⟨_,_,rfl,rfl,h'⟩
  .exact oz Y s U H _ _ v u Q I rx ry ⟨_,_,rfl,rfl,eO nofun,h'.2⟩
  .unfold qZ at h';rcases h' with⟨xs,ys,ha,hb,hz,q⟩|h'
   .exact A0 Y s U H _ _ v u Q I rx ry ⟨_,_,xs,ys,rfl,rfl,ha,hb,eO nofun,q⟩
   .exact wu Y s U H _ _ v u Q I rx ry h'
  .exact h'.elim
 |Sub=>
  have h':AS x y H Q:=h;unfold AS at h'
  split at h'
  .exact A9 Y s U H _ _ v u Q I rx ry ⟨_,_,rfl,rfl,h'⟩
  .exact h'.elim
 |Mult=>
  have h':zR X.K x y H Q:=h;unfold zR at h'
  split at h'
  .exact A5 Y s U H _ _ v u Q I rx ry ⟨_,_,rfl,rfl,h'.1,h'.2⟩
  .rename_i k;unfold wV at h';rcases h' with⟨xs,ha,h1,h2,hz,q⟩|h'
   .refine A3 Y s U H _ _ v u Q I rx ry ⟨_,k,xs,rfl,rfl,ha,by omega,by omega,eO ?_,q⟩;have:xs.length*k.toNat<=1000*1000:=Nat.mul_le_mul hz nofun
    omega
   .exact h'.elim
  .exact h'.elim
 |FloorDiv=>
  have h':Ao x y H Q:=h;unfold Ao at h'
  split at h'
  .exact xy Y s U H _ _ v u Q I rx ry ⟨_,_,rfl,rfl,h'.1,h'.2⟩
  .exact h'.elim
 |Mod=>
  have h':Bp x y H Q:=h;unfold Bp at h'
  split at h'
  .exact AR Y s U H _ _ v u Q I rx ry ⟨_,_,rfl,rfl,h'.1,h'.2⟩
  .exact h'.elim
 |Pow=>
  have h':BJ x y H Q:=h;unfold BJ at h'
  split at h'
  .exact AB Y s U H _ _ v u Q I rx ry ⟨_,_,rfl,rfl,h'.1,h'.2⟩
  .exact h'.elim
 |_=>exact(show False from h).elim
abbrev rk (f:Int->Int->Bool):R2:=λx y H Q=>match x,y with
 | .int i,.int j=>Q (.bl (f i j)) H
 |_,_=>False
@[irreducible] noncomputable def mf (K:W.Frag) (neg:Bool):R2:=λx y H Q=>match y with
 | .ref p=>(∃ xs,(aF K H p xs\/bF K H p xs)/\aD x=true/\xs.all aD=true/\Q (.bl (if neg then !sM x xs else sM x xs)) H)\/(∃ o,m8 H p x o/\Q (.bl (if neg then !o.isSome else o.isSome)) H)\/False
 | .str j=>∃ i,x=.str i/\Q (.bl (if neg then !(!(Builtin.Str.occurrences j i 0 j.length 1).isEmpty) else !(Builtin.Str.occurrences j i 0 j.length 1).isEmpty)) H
 |_=>False
@[irreducible] noncomputable def vV (neg:Bool):R2:=λx y H Q=>match y with
 | .non=>Q (.bl (if neg then !decide (x=.non) else decide (x=.non))) H
 | .bl b=>False
 | .ref b=>False
 |_=>False
abbrev mG (K:W.Frag)(op:CmpOp):R2:=match op with
 | .Eq=>cQ K false
 | .NotEq=>cQ K true
 | .Lt=>rk λi j=>decide (i<j)
 | .LtE=>rk λi j=>decide (i<=j)
 | .Gt=>rk λi j=>decide (j<i)
 | .GtE=>rk λi j=>decide (j<=i)
 | .In=>mf K false
 | .NotIn=>mf K true
 | .Is=>vV false
 | .IsNot=>vV true
def jS {f:Int->Int->Bool}{op:CmpOp}(ho:bT X (compareOp op) (yr λi j=>.bl (f i j))):bT X (compareOp op) (rk f):=by
 intro Y s U H x y v u Q I rx ry h;unfold rk at h
 split at h
 .exact ho Y s U H _ _ v u Q I rx ry ⟨_,_,rfl,rfl,h⟩
 .exact h.elim
def zy (hu:X.A.units+200<cLine)(op:CmpOp):bT X (compareOp op) (mG X.K op):=by
 cases op with
 |Eq=>exact AY hu
 |NotEq=>exact zB hu
 |Lt=>exact jS CS
 |LtE=>exact jS Dy
 |Gt=>exact jS Dm
 |GtE=>exact jS CY
 |In=>
  intro Y s U H x y v u Q I rx ry h;have h':mf X.K false x y H Q:=h;unfold mf at h'
  split at h'
  .rcases h' with⟨xs,hx,f1,f2,q⟩|⟨o,g,q⟩|z
   .exact qX Y s U H _ _ v u Q I rx ry ⟨_,xs,rfl,hx,f1,f2,q⟩
   .cases ry;exact E6 nofun I g rx λs3 I3=>⟨.bl o.isSome,H,I3,rfl,q⟩
   .exact z.elim
  .obtain⟨i,rfl,q⟩:=h';exact qy Y s U H _ _ v u Q I rx ry ⟨_,_,rfl,rfl,q⟩
  .exact h'.elim
 |NotIn=>
  intro Y s U H x y v u Q I rx ry h;have h':mf X.K true x y H Q:=h;unfold mf at h'
  split at h'
  .rcases h' with⟨xs,hx,f1,f2,q⟩|⟨o,g,q⟩|z
   rotate_left 2
   .exact z.elim
   .exact kU Y s U H _ _ v u Q I rx ry ⟨_,xs,rfl,hx,f1,f2,q⟩
   .cases ry;exact wU nofun I g rx λs3 I3=>⟨.bl (!o.isSome),H,I3,rfl,q⟩
  .obtain⟨i,rfl,q⟩:=h';exact kJ Y s U H _ _ v u Q I rx ry ⟨_,_,rfl,rfl,q⟩
  .exact h'.elim
 |Is=>
  intro Y s U H x y v u Q I rx ry h;have h':vV false x y H Q:=h;unfold vV at h'
  split at h'
  .exact AU Y s U H _ _ v u Q I rx ry ⟨rfl,h'⟩
  .exact h'.elim
  .exact h'.elim
  .exact h'.elim
 |IsNot=>
  intro Y s U H x y v u Q I rx ry h;have h':vV true x y H Q:=h;unfold vV at h'
  split at h'
  .exact vZ Y s U H _ _ v u Q I rx ry ⟨rfl,h'⟩
  .exact h'.elim
  .exact h'.elim
  .exact h'.elim
@[irreducible] noncomputable def pH (K:W.Frag):R2:=λx y H Q=>match x with
 | .ref p=>(∃ xs i v,y=.int i/\(aF K H p xs\/bF K H p xs)/\gX xs i=some v/\Q v H)\/∃ v,m8 H p y (some v)/\Q v H
 | .str z=>∃ i c,y=.int i/\z.length<=100000/\gX z.cps.toList i=some c/\Q (.str ⟨#[c]⟩) H
 |_=>False
def nN (hu:X.A.units+200<cLine):BZ X (pH X.K):=by
 intro value slice Y s U H x y v u Q I rx ry h hs;unfold pH at h
 split at h
 .rcases h with⟨xs,i,w,rfl,hx,ha,q⟩|⟨w,g,q⟩
  .rcases hx with hx|hx
   .exact xW value slice Y s U H _ _ v u Q I rx ry ⟨_,xs,i,w,rfl,rfl,hx,ha,q⟩ hs
   .exact Bv value slice Y s U H _ _ v u Q I rx ry ⟨_,xs,i,w,rfl,rfl,hx,ha,q⟩ hs
  .cases rx;exact tail_any (k9 I g) PySem.F.slot_dict_getitem.lookup (rG nofun I g ry λw' s3 I3 rw'=>⟨w,H,I3,rw',q⟩) hs
 .obtain⟨i,c,rfl,hz,ha,q⟩:=h;exact BV value slice Y s U H _ _ v u Q I rx ry ⟨_,i,c,rfl,rfl,eO nofun,ha,q⟩ hs
 .exact h.elim
@[irreducible] noncomputable def lu:qD:=λo i v H Q=>match o with
 | .ref p=>(∃ xs k j,i=.int k/\H p=some (.lst xs)/\xO xs.length k=some j/\Q (upd H p (.lst (xs.set j v))))\/∃ H4,C7 H p i v H4/\Q H4
 |_=>False
def pS (hu:X.A.units+200<cLine):yh X lu:=by
 intro Y s U H o i v ov iv u Q I ro ri rv h;unfold lu at h
 split at h
 .rcases h with⟨xs,k,j,rfl,hp,hj,q⟩|⟨H4,g,q⟩
  .exact set_list Y s U H _ _ v ov iv u Q I ro ri rv ⟨_,xs,k,j,rfl,rfl,hp,hj,q⟩
  .cases ro;exact qR nofun I g ri rv λs4 I4=>⟨H4,I4,q⟩
 .exact h.elim
@[irreducible] noncomputable def yO (K:W.Frag):V->Option Int->Option Int->Hp->VK->Prop:=λx lo hi H Q=>match x with
 | .ref a=>(∃ xs,aF K H a xs/\∀ p,H p=none->Q (.ref p) (upd H p (.lst (ft xs lo hi))))\/CP K (.ref a) lo hi H Q
 | .str z=>False
 |_=>False
def BD:Cf X (yO X.K):=by
 intro Y s U H x v vl vu lo hi sl Q I rx hs pl pu h;unfold yO at h
 split at h
 .rcases h with⟨xs,hx,q⟩|h
  .exact yu Y s U H _ v vl vu lo hi sl Q I rx hs pl pu ⟨_,xs,rfl,hx,q⟩
  .exact Bj Y s U H _ v vl vu lo hi sl Q I rx hs pl pu h
 .exact h.elim
 .exact h.elim
end
end L2
namespace L3
open PySem L2
set_option genSizeOf false
inductive Bf where
 |len|list|tuple|int|str|min|max|abs|all|any|dict|sum
 deriving DecidableEq
inductive Lm where
 |append|extend|insert|pop|clear|reverse|count
 deriving DecidableEq
inductive Sm where
 |join|split|starts
 deriving DecidableEq
inductive Cl where
 |own (c:Nat)|ty (n:String)
mutual
inductive Ex where
 |v (i:Nat)|int (i:Int)|bl (b:Bool)|non|str (x:Str)|gl (x:Str)
 |bin (op:Operator) (a b:Ex)|neg (a:Ex)|not (a:Ex)|and (a b:Ex)|or (a b:Ex)
 |cmp (op:CmpOp) (a b:Ex)|cmp2 (o1 o2:CmpOp) (a b c:Ex)|cmp3 (o1 o2 o3:CmpOp) (a b c d:Ex)
 |ife (c:Tx) (a b:Ex)|tup (es:eu)|lst (es:eu)|ix (a i:Ex)|sl (a:Ex) (lo hi:DW)
 |fld (a:Ex) (f:Str)|call (f:Nat) (es:eu)|meth (a:Ex) (m:Str) (es:eu)|lm (m:Lm) (a:Ex) (es:eu)|make (c:Nat) (es:eu)|bini (es:eu)|cini (c:Nat) (es:eu)
 |bf (b:Bf) (es:eu)|sm (m:Sm) (a b:Ex)|isi (a:Ex) (c:Cl)|lc (elt:Ex) (sel:List Nat) (it:yz)|lci (elt:Ex) (c:Tx) (sel:List Nat) (it:yz)|lct (elt:Ex) (n:Nat) (sel:List Nat) (it:yz)|lcu (elt:Ex) (c:Tx) (n:Nat) (sel:List Nat) (it:yz)|dnew|up (a:Ex)|dzip (a b:Ex)|isiT (a:Ex) (cs:List Nat)|vals (tp:Bool) (a:Ex)|mk0 (c:Nat)|disp (ks:List Str) (es:eu)|lix (a b:Ex)|rev (a b:Ex)|dget (a k d:Ex)
inductive Tx where
 |not (a:Tx)|and (a b:Tx)|or (a b:Tx)|cmp (op:CmpOp) (a b:Ex)|cmp2 (o1 o2:CmpOp) (a b c:Ex)|val (e:Ex)
inductive eu where
 |nil|cons (e:Ex) (es:eu)
inductive DW where
 |no|yes (e:Ex)
inductive yz where
 |rng1 (a:Ex)|rng2 (a b:Ex)|rng3 (a b c:Ex)|enm (a:Ex)|enf (a:Ex)|seq (a:Ex)|zip (a b:Ex)|zip3 (a b c:Ex)
end
inductive DQ where
 |nm (i:Nat)|tp (is:List Nat)|nt (i:Nat) (is:List Nat)
mutual
inductive Sx where
 |asg (i:Nat) (e:Ex)|asgT (is:List Nat) (e:Ex)|par (is:List Nat) (es:eu)|sub (o i v:Ex)|fld (o:Ex) (f:Str) (v:Ex)
 |aug (i:Nat) (op:Operator) (e:Ex)|augS (o i:Ex) (op:Operator) (e:Ex)
 |ret (e:Ex)|retN|pass|brk|cont|expr (e:Ex)
 |ife (c:Tx) (a b:iO)|whl (c:Tx) (b:iO)|for (t:DQ) (it:yz) (b:iO)|rais (e:Ex)|tryx (b:iO) (hs:vW)
inductive iO where
 |nil|cons (s:Sx) (r:iO)
inductive vW where
 |nil|cons (c:Nat) (i:Nat) (b:iO) (hs:vW)
end
structure aE where
 ps:List Str
 N:List Str
 dfl:List V
 body:iO
/-- what of the text never changes. gfn,gcl:the global names of defs and classes,by number;gbl:built-in names that are not shadowed;gbi:classes of exceptions whose __init__ is the built-in one;na:class and name that no class of it has;
  me:class,name,def;ini:class,its __init__;oc,xc:plain classes,classes of exceptions;sub,subT:isinstance -/
structure Tab where
 fns:List aE
 gfn:List (Str×Nat)
 gcl:List (Str×Nat)
 gbl:List Str
 gbi:List Str
 na:List (Nat×Str)
 me:List ((Nat×Str)×Nat)
 ini:List (Nat×Nat)
 ini0:List Nat
 inip:List Nat
 oc:List Nat
 xc:List Nat
 sub:List ((Nat×Nat)×Bool)
 subT:List ((Nat×String)×Bool)
 subB:List ((String×String)×Bool)
 subO:List ((String×Nat)×Bool)
 cin:List (Nat×Nat):=[]
structure Rt where
 K:W.Frag
 fad:Nat->Addr
 cad:Nat->Addr
 gl:Str->Option V
structure Gx where
 T:Tab
 R:Rt
 Ψ:Nat->Sp
 cm:Bool
@[irreducible] noncomputable def gc (c:Bool) (A B:Prop):Prop:=match c with
 |true=>A
 |false=>B
def dm (c:Bool)(A B:Prop):gc c A B=(if c=true then A else B):=by unfold gc;cases c<;>rfl
abbrev Bd (K:W.Frag)(x:V)(H:Hp)(Q:Bool->Hp->Prop):Prop:=match x with
 | .bl k=>Q k H
 |y=>∃ k,xN K y H k/\Q k H
abbrev tyName:V->Hp->Option String
 | .non,_=>some "NoneType"
 | .bl _,_=>some "bool"
 | .int _,_=>some "int"
 | .str _,_=>some "str"
 | .ref a,H=>match H a with
  |some (.lst _)=>some "list"
  |some (.tup _)=>some "tuple"
  |some (.dK _)=>some "dict"
  |some (.aH _ (.dK _))=>some "dict"
  |_=>none
 |_,_=>none
@[irreducible] noncomputable def gM (G:Gx) (b:Bf) (vs:List V) (H:Hp) (Q:VK):Prop:=match b with
 | .len=>∃ x n,vs=[x]/\Cn G.R.K x H n/\Q (.int n) H
 | .list=>(∃ p ys,vs=[.ref p]/\(aF G.R.K H p ys\/bF G.R.K H p ys)/\∀ l,H l=none->Q (.ref l) (upd H l (.lst ys)))\/(G.cm=true/\∃ p kvs,vs=[.ref p]/\Rd H p (.dK kvs)/\∀ l,H l=none->Q (.ref l) (upd H l (.lst (kvs.map (λkv=>kV kv.1)))))
 | .tuple=>False
 | .int=>(∃ i,vs=[.int i]/\Q (.int i) H)\/∃ k,vs=[.bl k]/\Q (.int (if k then 1 else 0)) H
 | .str=>(∃ i,vs=[.int i]/\i.natAbs.log2<1920/\Q (.str (toString i)) H)\/∃ z,vs=[.str z]/\Q (.str z) H
 | .min=>G.cm=true/\((∃ i j,vs=[.int i,.int j]/\Q (.int (if j<i then j else i)) H)\/False)
 | .max=>False
 | .abs=>False
 | .all=>G.cm=true/\∃ p,∃ bs:List Bool,vs=[.ref p]/\aF G.R.K H p (bs.map V.bl)/\Q (.bl (bs.all id)) H
 | .any=>False
 | .dict=>False
 | .sum=>G.cm=true/\∃ p,∃ ns:List Int,vs=[.ref p]/\aF G.R.K H p (ns.map V.int)/\Q (.int ns.sum) H
@[irreducible] noncomputable def vU (m:Lm) (p:Addr) (xs:List V) (vs:List V) (H:Hp) (Q:VK):Prop:=match m with
 | .append=>∃ y,vs=[y]/\xs.length<=10000/\Q .non (upd H p (.lst (xs++[y])))
 | .extend=>∃ b zs,vs=[.ref b]/\H b=some (.lst zs)/\xs.length+zs.length<=10000/\Q .non (upd H p (.lst (xs++zs)))
 | .insert=>False
 | .pop=>False
 | .clear=>vs=[]/\Q .non (upd H p (.lst []))
 | .reverse=>False
 | .count=>False
abbrev dflt (G:Gx)(f n:Nat):List V:=match G.T.fns[f]? with
 |some d=>d.dfl.drop (n+d.dfl.length-d.ps.length)
 |none=>[]
abbrev eu.len:eu->Nat
 | .nil=>0
 | .cons _ es=>es.len+1
abbrev qq (G:Gx)(H:Hp)(a:Addr)(i:Nat):Prop:=(G.T.oc.contains i=true/\∃ dx fs,H a=some (.ins (G.R.cad i) dx fs))\/(G.T.xc.contains i=true/\∃ dx fs fr,H a=some (.exc (G.R.cad i) dx fs fr))
@[irreducible] noncomputable def fJ (G:Gx) (c:Cl) (x:V) (H:Hp) (Q:VK):Prop:=match c with
 | .ty n=>(∃ t b,tyName x H=some t/\G.T.subB.lookup (t,n)=some b/\Q (.bl b) H)\/∃ a i b,x=.ref a/\qq G H a i/\G.T.subT.lookup (i,n)=some b/\Q (.bl b) H
 | .own j=>(∃ t b,tyName x H=some t/\G.T.subO.lookup (t,j)=some b/\Q (.bl b) H)\/∃ a i b,x=.ref a/\qq G H a i/\G.T.sub.lookup (i,j)=some b/\Q (.bl b) H
abbrev anyS (G:Gx)(i:Nat):List Nat->Option Bool
 | []=>some false
 |c::r=>match G.T.sub.lookup (i,c) with
  |some true=>some true
  |some false=>anyS G i r
  |none=>none
abbrev x8 (G:Gx)(t:String):List Nat->Option Bool
 | []=>some false
 |c::r=>match G.T.subO.lookup (t,c) with
  |some true=>some true
  |some false=>x8 G t r
  |none=>none
@[irreducible] noncomputable def ly (G:Gx) (cs:List Nat) (x:V) (H:Hp) (Q:VK):Prop:=(∃ t b,tyName x H=some t/\x8 G t cs=some b/\Q (.bl b) H)\/∃ a i b,x=.ref a/\qq G H a i/\anyS G i cs=some b/\Q (.bl b) H
@[irreducible] noncomputable def nA (G:Gx) (f:Str) (x:V) (H:Hp) (Q:VK):Prop:=∃ a i fs v,x=.ref a/\((G.T.oc.contains i=true/\∃ dx,H a=some (.ins (G.R.cad i) dx fs))\/(G.T.xc.contains i=true/\∃ dx fr,H a=some (.exc (G.R.cad i) (some dx) fs fr)))/\
 G.T.na.contains (i,f)=true/\fs.lookup f=some v/\Q v H
@[irreducible] noncomputable def BS (G:Gx) (f:Str) (x y:V) (H:Hp) (Q:Hp->Prop):Prop:=∃ a i,x=.ref a/\G.T.na.contains (i,f)=true/\
 ((∃ dx fs,G.T.oc.contains i=true/\H a=some (.ins (G.R.cad i) dx fs)/\fs.length<1000/\Q (upd H a (.ins (G.R.cad i) dx (cp f y fs))))\/
  (∃ d fs fr,G.T.xc.contains i=true/\H a=some (.exc (G.R.cad i) (some d) fs fr)/\fs.length<1000/\Q (upd H a (.exc (G.R.cad i) (some d) (cp f y fs) fr)))\/
  (∃ fr,G.T.xc.contains i=true/\H a=some (.exc (G.R.cad i) none [] fr)/\∀ d,H d=none->Q (upd (upd H d (.own a)) a (.exc (G.R.cad i) (some d) [(f,y)] fr))))
abbrev DU (op:Operator)(x y:V)(H:Hp)(Q:VK):Prop:=match op,x,y with
 | .Add,.int i,.int j=>Q (.int (i+j)) H
 | .Sub,.int i,.int j=>Q (.int (i-j)) H
 |_,_,_=>False
@[irreducible] noncomputable def vO (K:W.Frag) (x y:V) (H:Hp) (Q:VK):Prop:=match x,y with
 | .ref p,.int i=>∃ xs v,aF K H p xs/\0<=i/\xs[i.toNat]? =some v/\Q v H
 |_,_=>False
abbrev xw (U:St):List Nat->List V->St
 |i::is,x::xs=>xw (U.set i (some x)) is xs
 |_,_=>U
@[irreducible] noncomputable def CF (K:W.Frag) (m:Sm) (z:Str) (y:V) (H:Hp) (Q:VK):Prop:=match m with
 | .join=>rJoin K (.str z) [y] H Q
 | .split=>False
 | .starts=>False
@[irreducible] noncomputable def xJ (xs:List V) (H:Hp) (Q:VK):Prop:=xs.length<=10000/\∀ p,H p=none->Q (.ref p) (upd H p (.lst xs))
@[irreducible] noncomputable def fN (xs:List V) (H:Hp) (Q:VK):Prop:=xs.length<=10000/\∀ p,H p=none->Q (.ref p) (upd H p (.tup xs))
@[irreducible] noncomputable def newD (H:Hp) (Q:VK):Prop:=∀ p,H p=none->Q (.ref p) (upd H p (.dK []))
@[irreducible] noncomputable def xo (l:Addr) (H:Hp) (R:It->Hp->Prop):Prop:=(∃ xs,H l=some (.lst xs))/\R (Dr l) H
@[irreducible] noncomputable def hW (K:W.Frag) (p:Addr) (H:Hp) (R:It->Hp->Prop):Prop:=((∃ xs,aF K H p xs)/\R (xR K p) H)\/((∃ xs,bF K H p xs)/\R (Dc K p) H)\/(∃ kvs,H p=some (.dK kvs)/\∀ o,R (yR p o kvs) (upd H p (.aH o (.dK kvs))))\/∃ o kvs,H p=some (.aH o (.dK kvs))/\R (yR p o kvs) H
@[irreducible] noncomputable def uZ (C:Addr) (H:Hp) (Q:VK):Prop:=∀ x dx,H x=none->H dx=none->dx≠x->Q (.ref x) (upd (upd H dx (.own x)) x (.ins C dx []))
@[irreducible] noncomputable def yf (K:W.Frag) (x y:V) (H:Hp) (Q:VK):Prop:=y=.int (-1)/\∃ p xs,x=.ref p/\aF K H p xs/\∀ l,H l=none->Q (.ref l) (upd H l (.lst xs.reverse))
@[irreducible] noncomputable def ui (K:W.Frag) (p:Addr) (y:V) (H:Hp) (Q:VK):Prop:=∃ xs,∃ (e:V->Bool) (j:Nat) (x:V),H p=some (.lst xs)/\xs.length<=10000/\(∀ x ∈ xs,∃ n,n<=100/\d8 K H n x y (e x))/\xs[j]? =some x/\e x=true/\(∀ (m:Nat) x,m<j->xs[m]? =some x->e x=false)/\Q (.int (j:Int)) H
@[irreducible] noncomputable def qQ (te:TE) (J:It) (σ₀:St) (H1:Hp) (Q:VK):Prop:=LC te J σ₀ H1 Q
def vJ: @qQ= @LC:=by
 funext te J U H Q
 unfold qQ
 rfl
@[irreducible] noncomputable def A4 (tc:TT) (te:TE) (J:It) (σ₀:St) (H1:Hp) (Q:VK):Prop:=LCg (eP 0) tc te J σ₀ H1 Q
def uk: @A4= @LCg (eP 0):=by
 funext tc te J U H Q
 unfold A4
 rfl
abbrev gl (is:List Nat):yk:=λvs U H Q=>vs.length=is.length/\Q (xw U is vs) H
@[irreducible] noncomputable def LCt (K:W.Frag) (n:Nat) (te:TE) (J:It) (σ₀:St) (H1:Hp) (Q:VK):Prop:=LCg (wK K n (gl (List.range n))) yes te J σ₀ H1 Q
def vg {K:W.Frag}{n:Nat}:LCt K n=LCg (wK K n (gl (List.range n))) yes:=by
 funext te J U H Q
 unfold LCt
 rfl
mutual
noncomputable def wE (G:Gx):Ex->St->Hp->VK->XK->Prop
 | .v i,U,H,Q,_=>match U[i]? with
  |some (some x)=>Q x H
  |_=>False
 | .int i,_,H,Q,_=>Q (.int i) H
 | .bl b,_,H,Q,_=>Q (.bl b) H
 | .non,_,H,Q,_=>Q .non H
 | .str x,_,H,Q,_=>Q (.str x) H
 | .gl x,_,H,Q,_=>match G.R.gl x with
  |some v=>Q v H
  |none=>False
 | .bin op a b,U,H,Q,E=>wE G a U H (λx H1=>wE G b U H1 (λy H2=>wN G.R.K op x y H2 Q) E) E
 | .neg a,U,H,Q,E=>wE G a U H (λx H1=>match x with| .int i=>Q (.int (-i)) H1|_=>False) E
 | .not a,U,H,Q,E=>wE G a U H (λx H1=>match x with| .bl c=>Q (.bl (!c)) H1|_=>False) E
 | .and a b,U,H,Q,E=>wE G a U H (λx H1=>match x with| .bl c=>gc c (wE G b U H1 Q E) (Q (.bl false) H1)|_=>False) E
 | .or a b,U,H,Q,E=>wE G a U H (λx H1=>match x with| .bl c=>gc c (Q (.bl true) H1) (wE G b U H1 Q E)|_=>False) E
 | .cmp op a b,U,H,Q,E=>wE G a U H (λx H1=>wE G b U H1 (λy H2=>mG G.R.K op x y H2 Q) E) E
 | .cmp2 o1 o2 a b c,U,H,Q,E=>wE G a U H (λx H1=>wE G b U H1 (λy H2=>mG G.R.K o1 x y H2 λz H3=>match z with| .bl k=>gc k (wE G c U H3 (λw H4=>mG G.R.K o2 y w H4 Q) E) (Q (.bl false) H3)|_=>False) E) E
 | .cmp3 o1 o2 o3 a b c d,U,H,Q,E=>False
 | .ife c a b,U,H,Q,E=>wT G c U H (λk H1=>gc k (wE G a U H1 Q E) (wE G b U H1 Q E)) E
 | .tup es,U,H,Q,E=>wEs G es U H (λxs H1=>fN xs H1 Q) E
 | .lst es,U,H,Q,E=>wEs G es U H (λxs H1=>xJ xs H1 Q) E
 | .ix a i,U,H,Q,E=>wE G a U H (λx H1=>wE G i U H1 (λy H2=>pH G.R.K x y H2 Q) E) E
 | .sl a lo hi,U,H,Q,E=>wE G a U H (λx H1=>wO G lo U H1 (λl H2=>wO G hi U H2 (λu H3=>yO G.R.K x l u H3 Q) E) E) E
 | .fld a f,U,H,Q,E=>wE G a U H (λx H1=>nA G f x H1 Q) E
 | .call f es,U,H,Q,E=>G.cm=true/\wEs G es U H (λvs H1=>G.Ψ f (vs++dflt G f es.len) H1 Q E) E
 | .meth a m es,U,H,Q,E=>G.cm=true/\wE G a U H (λx H1=>∃ p i dx fs f,x=.ref p/\H1 p=some (.ins (G.R.cad i) dx fs)/\fs.lookup m=none/\G.T.me.lookup (i,m)=some f/\
   wEs G es U H1 (λvs H2=>G.Ψ f (x::(vs++dflt G f (es.len+1))) H2 Q E) E) E
 | .lm m a es,U,H,Q,E=>wE G a U H (λx H1=>∃ p xs0,x=.ref p/\H1 p=some (.lst xs0)/\wEs G es U H1 (λvs H2=>∃ xs,H2 p=some (.lst xs)/\vU m p xs vs H2 Q) E) E
 | .make c es,U,H,Q,E=>G.cm=true/\match G.T.ini.lookup c with
  |none=>G.T.ini0.contains c=true/\wEs G es U H (λvs H1=>vs.length=1/\∀ x,H1 x=none->Q (.ref x) (upd H1 x (.exc (G.R.cad c) none [] true))) E
  |some f=>if G.T.xc.contains c=true then wEs G es U H (λvs H1=>vs.length<=1000/\∀ x,H1 x=none->G.Ψ f (.ref x::(vs++dflt G f (es.len+1))) (upd H1 x (.exc (G.R.cad c) none [] true)) (λv H2=>v=.non/\Q (.ref x) H2) E) E
   else wEs G es U H (λvs H1=>∀ x dx,H1 x=none->H1 dx=none->dx≠x->G.Ψ f (.ref x::(vs++dflt G f (es.len+1))) (upd (upd H1 dx (.own x)) x (.ins (G.R.cad c) dx [])) (λv H2=>v=.non/\Q (.ref x) H2) E) E
 | .bini es,U,H,Q,E=>wEs G es U H (λvs H1=>∃ a i dx fs fr v,vs=[.ref a,v]/\H1 a=some (.exc (G.R.cad i) dx fs fr)/\G.T.xc.contains i=true/\Q .non H1) E
 | .cini c es,U,H,Q,E=>False
 | .bf b es,U,H,Q,E=>wEs G es U H (λvs H1=>gM G b vs H1 Q) E
 | .isi a c,U,H,Q,E=>wE G a U H (λx H1=>fJ G c x H1 Q) E
 | .lc elt sel it,U,H,Q,E=>G.cm=true/\wI G it U H (λJ H1=>qQ (λσ' H' Q'=>wE G elt σ' H' Q' (λ_ _=>False)) J (none::c6 U sel) H1 Q) E
 | .lci elt c sel it,U,H,Q,E=>G.cm=true/\wI G it U H (λJ H1=>A4 (λσ' H' Q'=>wT G c σ' H' Q' (λ_ _=>False)) (λσ' H' Q'=>wE G elt σ' H' Q' (λ_ _=>False)) J (none::c6 U sel) H1 Q) E
 | .lct elt n sel it,U,H,Q,E=>G.cm=true/\wI G it U H (λJ H1=>LCt G.R.K n (λσ' H' Q'=>wE G elt σ' H' Q' (λ_ _=>False)) J (sn n none++c6 U sel) H1 Q) E
 | .lcu elt c n sel it,U,H,Q,E=>False
 | .dnew,_,H,Q,_=>newD H Q
 | .sm m a b,U,H,Q,E=>wE G a U H (λx H1=>∃ z,x=.str z/\wE G b U H1 (λy H2=>CF G.R.K m z y H2 Q) E) E
 | .up a,U,H,Q,E=>False
 | .isiT a cs,U,H,Q,E=>wE G a U H (λx H1=>∀ p,H1 p=none->ly G cs x (upd H1 p (.tup (cs.map λc=>.ref (G.R.cad c)))) Q) E
 | .mk0 c,_,H,Q,_=>uZ (G.R.cad c) H Q
 | .disp ks es,U,H,Q,E=>False
 | .dget a k d,U,H,Q,E=>False
 | .rev a b,U,H,Q,E=>wE G a U H (λx H1=>wE G b U H1 (λy H2=>yf G.R.K x y H2 Q) E) E
 | .lix a b,U,H,Q,E=>wE G a U H (λx H1=>∃ p xs0,x=.ref p/\H1 p=some (.lst xs0)/\wE G b U H1 (λy H2=>ui G.R.K p y H2 Q) E) E
 | .vals tp a,U,H,Q,E=>False
 | .dzip a b,U,H,Q,E=>False
noncomputable def wT (G:Gx):Tx->St->Hp->(Bool->Hp->Prop)->XK->Prop
 | .not a,U,H,Q,E=>wT G a U H (λc H1=>Q (!c) H1) E
 | .and a b,U,H,Q,E=>wT G a U H (λc H1=>gc c (wT G b U H1 Q E) (Q false H1)) E
 | .or a b,U,H,Q,E=>wT G a U H (λc H1=>gc c (Q true H1) (wT G b U H1 Q E)) E
 | .cmp op a b,U,H,Q,E=>wE G a U H (λx H1=>wE G b U H1 (λy H2=>mG G.R.K op x y H2 λz H3=>match z with| .bl k=>Q k H3|_=>False) E) E
 | .cmp2 o1 o2 a b c,U,H,Q,E=>wE G a U H (λx H1=>wE G b U H1 (λy H2=>mG G.R.K o1 x y H2 λz H3=>match z with| .bl k=>gc k (wE G c U H3 (λw H4=>mG G.R.K o2 y w H4 λz H5=>match z with| .bl k=>Q k H5|_=>False) E) (Q false H3)|_=>False) E) E
 | .val e,U,H,Q,E=>wE G e U H (λx H1=>Bd G.R.K x H1 Q) E
noncomputable def wEs (G:Gx):eu->St->Hp->(List V->Hp->Prop)->XK->Prop
 | .nil,_,H,Q,_=>Q [] H
 | .cons e es,U,H,Q,E=>wE G e U H (λx H1=>wEs G es U H1 (λxs H2=>Q (x::xs) H2) E) E
noncomputable def wO (G:Gx):DW->St->Hp->(Option Int->Hp->Prop)->XK->Prop
 | .no,_,H,Q,_=>Q none H
 | .yes e,U,H,Q,E=>wE G e U H (λx H1=>match x with| .int i=>Q (some i) H1|_=>False) E
noncomputable def wI (G:Gx):yz->St->Hp->(It->Hp->Prop)->XK->Prop
 | .rng1 a,U,H,R,E=>wE G a U H (λx H1=>match x with| .int j=>-(2 ^ 62)<=j/\j<2 ^ 62/\R (B4 0 j.toNat) H1|_=>False) E
 | .rng2 a b,U,H,R,E=>False
 | .rng3 a b c,U,H,R,E=>False
 | .enm a,U,H,R,E=>wE G a U H (λx H1=>match x with| .ref l=>xo l H1 R|_=>False) E
 | .enf a,U,H,R,E=>False
 | .seq a,U,H,R,E=>wE G a U H (λx H1=>match x with| .ref p=>hW G.R.K p H1 R| .str z=>R (yE z) H1|_=>False) E
 | .zip a b,U,H,R,E=>False
 | .zip3 a b c,U,H,R,E=>False
end
abbrev E9 (D:Ends)(f:St->Hp->Prop):Ends:={ D with nx:=f }
abbrev C6 (D:Ends)(N:St->Hp->Prop):Ends:={ D with nx:=N,ct:=N,bk:=D.nx }
abbrev FZ (D:Ends)(i:Nat):Ends:={ nx:=λσ' H'=>D.nx (σ'.set i none) H',rt:=D.rt,bk:=λσ' H'=>D.bk (σ'.set i none) H',ct:=λσ' H'=>D.ct (σ'.set i none) H' }
abbrev wG (U:St)(t:DQ)(K:W.Frag)(x:V)(H:Hp)(Q:St->Prop):Prop:=match t with
 | .nm i=>Q (U.set i (some x))
 | .tp is=>∃ a xs,x=.ref a/\(bF K H a xs\/aF K H a xs)/\xs.length=is.length/\Q (xw U is xs)
 | .nt i is=>∃ a y b ys,x=.ref a/\bF K H a [y,.ref b]/\bF K H b ys/\ys.length=is.length/\Q (xw (U.set i (some y)) is ys)
@[irreducible] noncomputable def ji (J:It) (D:Ends) (F:(St->Hp->Prop)->V->St->Hp->Prop) (U:St) (H1:Hp):Prop:=∃ W:Nat->Nat->St->Hp->Prop,(∃ m,W 0 m U H1)/\∀ i m U H,W i m U H->
 (J.stop i H/\D.nx U H)\/(J.go i H/\∃ N:St->Hp->Prop,(∀ σ' H',N σ' H'->∃ m',m'<m/\W (i+1) m' σ' H')/\∀ x H',J.yld i H x H'->F N x U H')
mutual
noncomputable def wS:Sx->Gx->Ends->(St->XK)->St->Hp->Prop
 | .asg i e,G,D,E,U,H=>wE G e U H (λx H1=>D.nx (U.set i (some x)) H1) (E U)
 | .asgT is e,G,D,E,U,H=>False
 | .par is es,G,D,E,U,H=>False
 | .sub o i v,G,D,E,U,H=>wE G v U H (λy H1=>wE G o U H1 (λov H2=>wE G i U H2 (λiv H3=>lu ov iv y H3 (λH4=>D.nx U H4)) (E U)) (E U)) (E U)
 | .fld o f v,G,D,E,U,H=>wE G v U H (λy H1=>wE G o U H1 (λx H2=>BS G f x y H2 (λH3=>D.nx U H3)) (E U)) (E U)
 | .aug i op e,G,D,E,U,H=>(match U[i]? with|some (some x)=>wE G e U H (λy H1=>DU op x y H1 λz H2=>D.nx (U.set i (some z)) H2) (E U)|_=>False)
 | .augS o i op e,G,D,E,U,H=>wE G o U H (λov H1=>wE G i U H1 (λiv H2=>vO G.R.K ov iv H2 (λx H3=>wE G e U H3 (λy H4=>DU op x y H4 (λz H5=>lu ov iv z H5 (λH6=>D.nx U H6))) (E U))) (E U)) (E U)
 | .ret e,G,D,E,U,H=>wE G e U H D.rt (E U)
 | .retN,_,D,_,_,H=>False
 | .pass,_,D,_,U,H=>False
 | .brk,_,D,_,U,H=>False
 | .cont,_,D,_,U,H=>False
 | .expr e,G,D,E,U,H=>wE G e U H (λ_ H1=>D.nx U H1) (E U)
 | .ife c a b,G,D,E,U,H=>wT G c U H (λk H1=>gc k (wB a G D E U H1) (wB b G D E U H1)) (E U)
 | .whl c b,G,D,E,U,H=>False
 | .for t it b,G,D,E,U,H=>G.cm=true/\wI G it U H (λJ H1=>ji J D (λN x U H'=>wG U t G.R.K x H' λσ2=>wB b G (C6 D N) E σ2 H') U H1) (E U)
 | .rais e,G,_,E,U,H=>G.cm=true/\wE G e U H (λv H1=>∃ a i dx fs,v=.ref a/\H1 a=some (.exc (G.R.cad i) dx fs true)/\G.T.xc.contains i=true/\E U a (upd H1 a (.exc (G.R.cad i) dx fs false))) (E U)
 | .tryx b hs,G,D,_,U,H=>G.cm=true/\wB b G D (λσ' e H'=>wH hs G D σ' e H') U H
noncomputable def wB:iO->Gx->Ends->(St->XK)->St->Hp->Prop
 | .nil,_,D,_,U,H=>D.nx U H
 | .cons s r,G,D,E,U,H=>wS s G (E9 D λσ1 H1=>wB r G D E σ1 H1) E U H
noncomputable def wH:vW->Gx->Ends->St->Addr->Hp->Prop
 | .nil,_,_,_,_,_=>False
 | .cons c i b hs,G,D,U,e,H=>∃ j dx fs k,H e=some (.exc (G.R.cad j) dx fs false)/\G.T.xc.contains j=true/\G.T.sub.lookup (j,c)=some k/\
   gc k (wB b { G with cm:=false } (FZ D i) (λ_ _ _=>False) (U.set i (some (.ref e))) H)
    (wH hs G D U e H)
end
end L3
namespace L3
open PySem PySem.Spec L2 PyProof.Rows
structure Sn where
 T:Tab
 sc:Scope
 N:List Str
abbrev Sn.mX (S:Sn)(x:Str):Bool:=decide (S.sc.names.lookup x=some .globalImplicit)&& !(x ==("__debug__":Str))
abbrev Sn.zA (S:Sn)(x:Str):Bool:=(decide (S.sc.names.lookup x=some .local)||decide (S.sc.names.lookup x=some .cell)||decide (S.sc.names.lookup x=some .free))&& !(x ==("__debug__":Str))&& !(x ==("__classdict__":Str))
abbrev Sn.loc (S:Sn)(i:Nat)(x:Str):Bool:=decide (S.N[i]? =some x)&&(decide (S.sc.names.lookup x=some .local)||decide (S.sc.names.lookup x=some .cell))
abbrev og:Expr->Bool
 | .ListComp .. | .SetComp .. | .DictComp ..=>false
 |_=>true
abbrev bW:Expr->Bool
 | .Set ..=>false
 |_=>true
abbrev du:Expr->Bool
 | .Slice ..=>false
 |_=>true
abbrev cD:Expr->Bool
 | .Call (.Name _ _) [] [] _=>false
 |_=>true
abbrev plainT:Expr->Bool
 | .UnaryOp .Not _ _| .BoolOp .. | .IfExp .. | .Compare ..=>false
 |_=>true
abbrev uF:Bf->String
 | .len=>"len"| .list=>"list"| .tuple=>"tuple"| .int=>"int"| .str=>"str"| .min=>"min"| .max=>"max"| .abs=>"abs"| .all=>"all"| .any=>"any"| .dict=>"dict"| .sum=>"sum"
abbrev vb:Lm->String
 | .append=>"append"| .extend=>"extend"| .insert=>"insert"| .pop=>"pop"| .clear=>"clear"| .reverse=>"reverse"| .count=>"count"
abbrev uU:Sm->String
 | .join=>"join"| .split=>"split"| .starts=>"startswith"
abbrev g7:List String:=["int","bool","str","list","tuple","dict","ValueError"]
abbrev v8 (S:Sn):Cl->Expr->Bool
 | .own c,.Name x _=>S.mX x&&decide (S.T.gcl.lookup x=some c)
 | .ty n,.Name x _=>S.mX x&&decide (x=(n:Str))&&S.T.gbl.contains x&&g7.contains n
 |_,_=>false
abbrev pB (S:Sn):List Nat->List Expr->Bool
 | [],[]=>true
 |c::cs,.Name x _::es=>S.mX x&&decide (S.T.gcl.lookup x=some c)&&pB S cs es
 |_,_=>false
abbrev bU (outer inner:Scope):Scope:=
 { inner with names:=inner.names.map λ(n,k)=>if(k ==.free&&outer.kind ==.function&&outer.names.lookup n ==some .cell) then(n,.cell) else(n,k) }
abbrev cU (S:Sn)(scope:Scope)(xs:List Str)(sel:List Nat):Bool:=
 decide (scope.kind=.function)&&decide (S.sc.kind=.function)&&scope.names.all (λy=>y.2 != .cell&&(y.2 != .local||decide (scope.names.lookup y.1=some .local))&&(y.2 != .free||(decide (S.sc.names.lookup y.1=some .cell))))&&xs.all (λx=>decide (scope.names.lookup x=some .local))&&
 sel.all (λi=>match S.N[i]? with|some y=>decide (S.sc.names.lookup y=some .cell)&&decide ((bU S.sc scope).names.lookup y=some .cell)|none=>false)&&decide ((xs++sel.filterMap λi=>S.N[i]?).Nodup)
abbrev x9:List Expr->List Str
 | .Name x _::r=>x::x9 r
 |_=>[]
abbrev rS (S:Sn):List Nat->List Expr->Bool
 | [],[]=>true
 |i::is,.Name x _::r=>decide (S.N[i]? =some x)&&decide (S.sc.names.lookup x=some .local)&&rS S is r
 |_,_=>false
abbrev rB:List Str->List (Option Expr)->Bool
 | [],[]=>true
 |k::ks,some (.Constant (.str x) _ _)::r=>decide (k=x)&&rB ks r
 |_,_=>false
mutual
noncomputable def mE (S:Sn):Ex->Expr->Bool
 | .v i,e=>match e with| .Name x _=>decide (S.N[i]? =some x)&&S.zA x|_=>false
 | .int i,e=>match e with| .Constant y1 _ _=>(match y1 with| .int j=>decide (i=j)|_=>false)|_=>false
 | .bl i,e=>match e with| .Constant y1 _ _=>(match y1 with| .bool j=>decide (i=j)|_=>false)|_=>false
 | .non,e=>match e with| .Constant y1 _ _=>(match y1 with| .none=>true|_=>false)|_=>false
 | .str i,e=>match e with| .Constant y1 _ _=>(match y1 with| .str j=>decide (i=j)|_=>false)|_=>false
 | .gl x,e=>match e with| .Name y _=>decide (x=y)&&S.mX y|_=>false
 | .bin op a b,e=>match e with| .BinOp a' op' b' _=>decide (op=op')&&mE S a a'&&mE S b b'|_=>false
 | .neg a,e=>match e with| .UnaryOp y1 a' _=>(match y1 with| .USub=>mE S a a'|_=>false)|_=>false
 | .not a,e=>match e with| .UnaryOp y1 a' _=>(match y1 with| .Not=>mE S a a'|_=>false)|_=>false
 | .and a b,e=>match e with| .BoolOp y1 y2 p=>(match y1 with| .And=>(match y2 with|a'::b'::r=>mE S a a'&&mE S b (match r with| []=>b'|_=>.BoolOp .And (b'::r) p)|_=>false)|_=>false)|_=>false
 | .or a b,e=>match e with| .BoolOp y1 y2 p=>(match y1 with| .Or=>(match y2 with|a'::b'::r=>mE S a a'&&mE S b (match r with| []=>b'|_=>.BoolOp .Or (b'::r) p)|_=>false)|_=>false)|_=>false
 | .cmp op a b,e=>match e with| .Compare a' y1 y2 _=>(match y1 with| [op']=>(match y2 with| [b']=>decide (op=op')&&mE S a a'&&mE S b b'&&bW b'|_=>false)|_=>false)|_=>false
 | .cmp2 o1 o2 a b c,e=>match e with| .Compare a' y1 y2 _=>(match y1 with| [p1,p2]=>(match y2 with| [b',c']=>decide (o1=p1)&&decide (o2=p2)&&mE S a a'&&mE S b b'&&mE S c c'&&bW c'|_=>false)|_=>false)|_=>false
 | .cmp3 o1 o2 o3 a b c d,_=>false
 | .ife c a b,e=>match e with| .IfExp c' a' b' _=>mT S c c'&&mE S a a'&&mE S b b'|_=>false
 | .tup es,e=>match e with| .Tuple es' _ _=>iU S es es'|_=>false
 | .lst es,e=>match e with| .List es' _=>iU S es es'|_=>false
 | .ix a i,e=>match e with| .Subscript a' i' _=>mE S a a'&&mE S i i'&&du i'|_=>false
 | .sl a lo hi,e=>match e with| .Subscript a' y1 _=>(match y1 with| .Slice lo' hi' y2 _=>(match y2 with|none=>mE S a a'&&mO S lo lo'&&mO S hi hi'|_=>false)|_=>false)|_=>false
 | .fld a f,e=>match e with| .Attribute a' f' _=>mE S a a'&&decide (f=f')&&cD a'|_=>false
 | .call f es,e=>match e with| .Call y1 es' y2 _=>(match y1 with| .Name x _=>(match y2 with| []=>S.mX x&&decide (S.T.gfn.lookup x=some f)&&iU S es es'|_=>false)|_=>false)|_=>false
 | .meth a m es,e=>match e with| .Call y1 es' y2 q=>(match y1 with| .Attribute a' m' p=>(match y2 with| []=>mE S a a'&&decide (m=m')&&iU S es es'&&cD a'&&(p.endLine ==q.line)&&decide (es.len<20)|_=>false)|_=>false)|_=>false
 | .dget a k d,_=>false
 | .rev a b,e=>match e with| .Subscript a' y1 _=>(match y1 with| .Slice y2 y3 y4 _=>(match y2 with|none=>(match y3 with|none=>(match y4 with|some b'=>mE S a a'&&mE S b b'|_=>false)|_=>false)|_=>false)|_=>false)|_=>false
 | .lix a b,e=>match e with| .Call y1 es' y2 q=>(match y1 with| .Attribute a' m' p=>(match y2 with| []=>(match es' with| [b']=>mE S a a'&&decide (m'=("index":Str))&&mE S b b'&&notStar b'&&cD a'&&(p.endLine ==q.line)|_=>false)|_=>false)|_=>false)|_=>false
 | .lm m a es,e=>match e with| .Call y1 es' y2 q=>(match y1 with| .Attribute a' m' p=>(match y2 with| []=>mE S a a'&&decide (m'=(vb m:Str))&&iU S es es'&&cD a'&&(p.endLine ==q.line)&&decide (es.len<20)|_=>false)|_=>false)|_=>false
 | .make c es,e=>match e with| .Call y1 es' y2 _=>(match y1 with| .Name x _=>(match y2 with| []=>S.mX x&&decide (S.T.gcl.lookup x=some c)&&iU S es es'|_=>false)|_=>false)|_=>false
 | .bini es,e=>match e with| .Call y1 es' y2 q=>(match y1 with| .Attribute y3 m p=>(match y3 with| .Name x _=>(match y2 with| []=>S.mX x&&decide (m=("__init__":Str))&&S.T.gbi.contains x&&iU S es es'&&decide (es.len=2)&&(p.endLine ==q.line)|_=>false)|_=>false)|_=>false)|_=>false
 | .cini c es,_=>false
 | .bf b es,e=>match e with| .Call y1 es' y2 _=>(match y1 with| .Name x _=>(match y2 with| []=>S.mX x&&decide (x=(uF b:Str))&&S.T.gbl.contains x&&iU S es es'&&decide (0<es.len)|_=>false)|_=>false)|_=>false
 | .isi a c,e=>match e with| .Call y1 y2 y3 _=>(match y1 with| .Name x _=>(match y3 with| []=>(match y2 with| [a',c']=>S.mX x&&decide (x=("isinstance":Str))&&S.T.gbl.contains x&&mE S a a'&&v8 S c c'|_=>false)|_=>false)|_=>false)|_=>false
 | .lc elt sel it,e=>match e with| .ListComp elt' y1 scope _=>(match y1 with| [y2]=>(match y2 with|⟨y3,iter,y4,y5⟩=>(match y3 with| .Name x px=>(match y4 with| []=>(match y5 with|0=>cU S scope [x] sel&&mI S it (.Name x px) iter&&mE { S with sc:=bU S.sc scope,N:=x::sel.filterMap λi=>S.N[i]? } elt elt'&&bW iter|_=>false)|_=>false)|_=>false))|_=>false)|_=>false
 | .lci elt c sel it,e=>match e with| .ListComp elt' y1 scope _=>(match y1 with| [y2]=>(match y2 with|⟨y3,iter,y4,y5⟩=>(match y3 with| .Name x px=>(match y4 with| [c']=>(match y5 with|0=>cU S scope [x] sel&&mI S it (.Name x px) iter&&mE { S with sc:=bU S.sc scope,N:=x::sel.filterMap λi=>S.N[i]? } elt elt'&&mT { S with sc:=bU S.sc scope,N:=x::sel.filterMap λi=>S.N[i]? } c c'&&bW iter|_=>false)|_=>false)|_=>false))|_=>false)|_=>false
 | .lct elt n sel it,e=>match e with| .ListComp elt' y1 scope _=>(match y1 with| [y2]=>(match y2 with|⟨y3,iter,y4,y5⟩=>(match y3 with| .Tuple ts kt pt=>(match y4 with| []=>(match y5 with|0=>cU S scope (x9 ts) sel&&rS { S with sc:=bU S.sc scope,N:=x9 ts++sel.filterMap λi=>S.N[i]? } (List.range n) ts&&decide ((x9 ts).length=n)&&mI S it (.Tuple ts kt pt) iter&&mE { S with sc:=bU S.sc scope,N:=x9 ts++sel.filterMap λi=>S.N[i]? } elt elt'&&bW iter|_=>false)|_=>false)|_=>false))|_=>false)|_=>false
 | .lcu elt c n sel it,_=>false
 | .dnew,e=>match e with| .Dict y1 y2 _=>(match y1 with| []=>(match y2 with| []=>true|_=>false)|_=>false)|_=>false
 | .sm m a b,e=>match e with| .Call y1 es' y2 q=>(match y1 with| .Attribute a' m' p=>(match y2 with| []=>(match es' with| [b']=>mE S a a'&&decide (m'=(uU m:Str))&&mE S b b'&&notStar b'&&cD a'&&(p.endLine ==q.line)|_=>false)|_=>false)|_=>false)|_=>false
 | .up a,_=>false
 | .isiT a cs,e=>match e with| .Call y1 y2 y3 _=>(match y1 with| .Name x _=>(match y3 with| []=>(match y2 with| [a',y4]=>(match y4 with| .Tuple es' _ _=>S.mX x&&decide (x=("isinstance":Str))&&S.T.gbl.contains x&&mE S a a'&&pB S cs es'&&decide (cs.length<=100)|_=>false)|_=>false)|_=>false)|_=>false)|_=>false
 | .mk0 c,e=>match e with| .Call y1 y2 y3 _=>(match y1 with| .Name x _=>(match y2 with| []=>(match y3 with| []=>S.mX x&&decide (S.T.gcl.lookup x=some c)&&S.T.inip.contains c|_=>false)|_=>false)|_=>false)|_=>false
 | .disp ks es,_=>false
 | .vals tp a,_=>false
 | .dzip a b,_=>false
noncomputable def mT (S:Sn):Tx->Expr->Bool
 | .not a,e=>match e with| .UnaryOp y1 a' _=>(match y1 with| .Not=>mT S a a'|_=>false)|_=>false
 | .and a b,e=>match e with| .BoolOp y1 y2 p=>(match y1 with| .And=>(match y2 with|a'::b'::r=>mT S a a'&&mT S b (match r with| []=>b'|_=>.BoolOp .And (b'::r) p)|_=>false)|_=>false)|_=>false
 | .or a b,e=>match e with| .BoolOp y1 y2 p=>(match y1 with| .Or=>(match y2 with|a'::b'::r=>mT S a a'&&mT S b (match r with| []=>b'|_=>.BoolOp .Or (b'::r) p)|_=>false)|_=>false)|_=>false
 | .cmp op a b,e=>match e with| .Compare a' y1 y2 _=>(match y1 with| [op']=>(match y2 with| [b']=>decide (op=op')&&mE S a a'&&mE S b b'&&bW b'|_=>false)|_=>false)|_=>false
 | .cmp2 o1 o2 a b c,e=>match e with| .Compare a' y1 y2 _=>(match y1 with| [p1,p2]=>(match y2 with| [b',c']=>decide (o1=p1)&&decide (o2=p2)&&mE S a a'&&mE S b b'&&mE S c c'&&bW c'|_=>false)|_=>false)|_=>false
 | .val e,e'=>mE S e e'&&plainT e'
noncomputable def iU (S:Sn):eu->List Expr->Bool
 | .nil,es=>es.isEmpty
 | .cons e es,l=>match l with|e'::es'=>mE S e e'&&notStar e'&&iU S es es'| []=>false
noncomputable def mO (S:Sn):DW->Option Expr->Bool
 | .no,o=>o.isNone
 | .yes e,o=>match o with|some e'=>mE S e e'|none=>false
noncomputable def mI (S:Sn):yz->Expr->Expr->Bool
 | .rng1 a,_,e=>match e with| .Call y1 y2 y3 _=>(match y1 with| .Name x _=>(match y3 with| []=>(match y2 with| [a']=>S.mX x&&decide (x=("range":Str))&&S.T.gbl.contains x&&mE S a a'&&notStar a'|_=>false)|_=>false)|_=>false)|_=>false
 | .rng2 a b,_,e=>false
 | .rng3 a b c,_,e=>false
 | .enm a,t,e=>match e with| .Call y1 y2 y3 _=>(match y1 with| .Name x _=>(match y3 with| []=>(match y2 with| [a']=>S.mX x&&decide (x=("enumerate":Str))&&S.T.gbl.contains x&&mE S a a'&&notStar a'&&(match t with| .Tuple ..=>true|_=>false)|_=>false)|_=>false)|_=>false)|_=>false
 | .enf a,t,e=>false
 | .seq a,_,e=>mE S a e
 | .zip a b,t,e=>false
 | .zip3 a b c,t,e=>false
end
end L3
namespace L3
open PySem PySem.Spec L2
variable {e:Expr}
def plainT_ok (h:plainT e=true)(env:Env)(whole:Sem Value):isTrue e env whole=(do let v <-whole;standAt e.pos;holding [v] (truthy v)):=by
 cases e<;>first|rfl|(cases h)|skip
 case UnaryOp op a p=>cases op<;>first|rfl|cases h
def aS (h:bW e=true)(env:Env)(x:Value):foldedSetIterable e env x=pure x:=by
 cases e<;>first|rfl|cases h
def c9 (h:bW e=true)(op:CmpOp):behindInMarks op e=false:=by
 cases e<;>first|rfl|cases h
def eD (h:og e=true)(t:Option Expr)(n:Nat)(env:Env):swapsWith e t n env=pure false:=by
 cases e<;>first|rfl|cases h
variable {o:Expr}
def aT (h:cD o=true)(a:Str)(env:Env)(whole:Sem Value):attributeBase o a env whole=whole:=by
 cases o with
 |Call f as ks p=>
  cases f<;>first|rfl|skip
  case Name x q=>
   cases as with
   |nil=>cases ks with
    |nil=>cases h
    |cons k ks=>rfl
   |cons b bs=>rfl
 |_=>rfl
variable {b:Expr}
def oh (h:du b=true):pd b:=by
 intro o i;cases b<;>first|rfl|cases h
variable {X:Cx}
def PE.bX {t:TE}(h:PE X e t):PE X e (λU H R=>∃ Q,t U H Q/\∀ x H1,Q x H1->R x H1):=λY s U H R I ⟨Q,q,i⟩=>
 aB (h Y s U H Q I q) λ_ _ ⟨v,H',J,r,z⟩=>⟨v,H',J,r,i _ _ z⟩
variable {t:TT}
def PT.bX (h:PT X e t):PT X e (λU H R=>∃ Q,t U H Q/\∀ x H1,Q x H1->R x H1):=λY s U H R I ⟨Q,q,i⟩=>
 aB (h Y s U H Q I q) λ_ _ ⟨H',J,z⟩=>⟨H',J,i _ _ z⟩
def PA.bX {e:List Expr}{t:TA}(h:PA X e t):PA X e (λU H R=>∃ Q,t U H Q/\∀ x H1,Q x H1->R x H1):=λpos Y s U H R I ⟨Q,q,i⟩=>
 aB (h pos Y s U H Q I q) λ_ _ ⟨v,H',J,r,z⟩=>⟨v,H',J,r,i _ _ z⟩
def PE.imp {t t':TE}(h:PE X e t)(hi:∀ U H Q,t' U H Q->t U H Q):PE X e t':=λY s U H Q I q=>h Y s U H Q I (hi _ _ _ q)
def PT.imp {t':TT}(h:PT X e t)(hi:∀ U H Q,t' U H Q->t U H Q):PT X e t':=λY s U H Q I q=>h Y s U H Q I (hi _ _ _ q)
def PS.imp {e:Stmt}{t t':TS}(h:PS X e t)(hi:∀ D U H,t' D U H->t D U H):PS X e t':=λY s U H D I q=>h Y s U H D I (hi _ _ _ q)
structure vz (P:Program) (w:World) (K:W.Frag) (mg:GF) (base:Heap) (k:Nat) (f:Addr) (d:aE) (sp:Sp):Prop where
 fact:∃ fd,cC P w K mg base (sC P w) k f fd d.ps sp/\∀ j,∃ ds,Binds K fd d.ps ds/\Vals (d.dfl.drop j) ds
 own:∀ fd oc od osl,K.lookup f=some ⟨oc,od,.func fd,osl⟩->cC P w K mg base (sC P w) k f fd d.ps sp
structure wL (K:W.Frag) (mg:GF) (T:Tab) (R:Rt):Prop where
 gfn:∀ x f,T.gfn.lookup x=some f->mg x=some (.ref (R.fad f))/\W.keepIn K (.ref (R.fad f))=true/\∃ d,T.fns[f]? =some d
 gcl:∀ x c,T.gcl.lookup x=some c->mg x=some (.ref (R.cad c))
 gbl:∀ x,T.gbl.contains x=true->mg x=none/\x≠"__name__"
 gbi:∀ x,T.gbi.contains x=true->∃ B,mg x=some (.ref B)/\Fx K B
 gl:∀ x v,R.gl x=some v->∃ u,mg x=some u/\RelV v u
 na:∀ i f,T.na.contains (i,f)=true->dc K (R.cad i) f
 me:∀ i m f,T.me.lookup (i,m)=some f->xh K (R.cad i)/\Meth K (R.cad i) m (R.fad f)/\∃ d,T.fns[f]? =some d
 ini0:∀ c,T.ini0.contains c=true->AD K (R.cad c)
 inip:∀ c,T.inip.contains c=true->Fc K (R.cad c)
 ini:∀ c f,T.ini.lookup c=some f->(∃ d,T.fns[f]? =some d)/\if T.xc.contains c=true then DR K (R.cad c) (R.fad f) else Mk K (R.cad c) (R.fad f)
 oc:∀ c,T.oc.contains c=true->xh K (R.cad c)/\Ei K (R.cad c)
 xc:∀ c,T.xc.contains c=true->bR K (R.cad c)/\tW K (R.cad c)
 sub:∀ i j b,T.sub.lookup (i,j)=some b->W.kitOne K (.ref (R.cad i)) (.ref (R.cad j))=some b/\(T.xc.contains i=true->W.mroIn K (R.cad i) (.ref (R.cad j))=some b/\bR K (R.cad j))
 subT:∀ i n b,T.subT.lookup (i,n)=some b->W.kitOne K (.ref (R.cad i)) (.type n)=some b
 subB:∀ t n b,T.subB.lookup (t,n)=some b->W.kitOne K (.type t) (.type n)=some b
 subO:∀ t j b,T.subO.lookup (t,j)=some b->W.kitOne K (.type t) (.ref (R.cad j))=some b
 cin:∀ c f,T.cin.lookup c=some f->FL K (R.cad c) (R.fad f)/\∃ d,T.fns[f]? =some d
structure Gd (X:Cx) (G:Gx) (S:Sn) (k:Nat) (E:St->XK):Prop where
 hK:G.R.K=X.K
 hT:S.T=G.T
 sc:X.env.scope=S.sc
 N:X.N=S.N
 nd:S.N.Nodup
 pass:Passes (sC X.prog X.w) X E
 cm:G.cm=true->X.calm=true
 room:G.cm=true->bh (k+1) X.A
 un:X.A.units+200<cLine
 tab:wL X.K X.mg G.T G.R
 fns:∀ f d,G.T.fns[f]? =some d->vz X.prog X.w X.K X.mg X.base k (G.R.fad f) d (G.Ψ f)
variable {x:Str}{l es:List Expr}
section
variable {X:Cx}{G:Gx}{S:Sn}{k:Nat}{E:St->XK}
def Gd.bin (g:Gd X G S k E)(op:Operator):bT X (binaryOp op) (wN G.R.K op):=g.hK▸AM op
def Gd.cmp (g:Gd X G S k E)(op:CmpOp):bT X (compareOp op) (mG G.R.K op):=g.hK▸zy g.un op
def Gd.glob (g:Gd X G S k E)(h:S.mX x=true):Gl X x/\(x ==("__debug__":Str))=false:=by
 unfold Sn.mX at h;simp only[lw,decide_eq_true_eq,Bool.not_eq_true']at h;refine⟨?_,h.2⟩;show X.env.scope.names.lookup x=_;rw[g.sc];exact h.1
def Gd.zA (g:Gd X G S k E)(h:S.zA x=true):Dl X.env.scope x/\(x ==("__debug__":Str))=false/\(x ==("__classdict__":Str))=false:=by
 unfold Sn.zA at h;simp only[lw,Bool.or_eq_true,decide_eq_true_eq,Bool.not_eq_true']at h;refine⟨?_,h.1.2,h.2⟩;unfold Dl;rw[g.sc];rcases h.1.1 with(h|h)|h
 .exact .inl h
 .exact .inr (.inl h)
 .exact .inr (.inr h)
def Gd.loc (g:Gd X G S k E){i:Nat}(h:S.loc i x=true):X.N[i]? =some x/\L2.Loc X.env.scope x:=by
 unfold Sn.loc at h;simp only[lw,Bool.or_eq_true,decide_eq_true_eq]at h;rw[g.N];refine⟨h.1,?_⟩;unfold L2.Loc;rw[g.sc];exact h.2
def aL:∀ {es:eu}{l:List Expr},iU S es l=true->∀ (env:Env) (pos:Pos),(backTo pos (bm l env)).any (·.1)=false
 | .nil,[],_,_,_=>rfl
 | .nil,_::_,h,_,_=>by cases(show false=true from h)
 | .cons e es,[],h,_,_=>by cases(show false=true from h)
 | .cons e es,e'::l,h,env,pos=>by
  have h:(mE S e e'&&notStar e'&&iU S es l)=true:=h;simp only[lw]at h;rw[ag h.1.2];show((backTo pos (bm l env)).any (·.1))=false;exact aL h.2 env pos
def j5:∀ {es:eu}{l:List Expr},iU S es l=true->l.length=es.len
 | .nil,[],_=>rfl
 | .nil,_::_,h=>by cases(show false=true from h)
 | .cons e es,[],h=>by cases(show false=true from h)
 | .cons e es,e'::l,h=>by
  have h:(mE S e e'&&notStar e'&&iU S es l)=true:=h;simp only[lw]at h;show l.length+1=es.len+1;rw[j5 h.2]
def aZ {es:eu}(h:iU S es (e::l)=true):notStar e=true/\∃ x es',es=.cons x es'/\iU S es' l=true:=by
 cases es with
 |nil=>cases(show false=true from h)
 |cons x es'=>
  have h:(mE S x e&&notStar e&&iU S es' l)=true:=h;simp only[lw]at h;exact⟨h.1.2,x,es',rfl,h.2⟩
def pA:∀ {es:eu}{l:List Expr},iU S es l=true->es.len<20->∀ (env:Env) (cpos:Pos),methodCallForm (l.length+([]:List Keyword).length) (backTo cpos (bm l env)) (backToKw cpos (keywordEach [] env))=true:=by
 intro es l h hl env cpos;have h1:=aL h env cpos;have h2:=j5 h;have h3:(backTo cpos (bm l env)).all (λx=>!x.1)=true:=by
  rw[all_eq_true];intro x hx;rw[any_eq_false]at h1;simpa using h1 x hx
 unfold methodCallForm;rw[h3,h2];simp[keywordEach,backToKw]
 omega
def jC {m:Str}{apos pos:Pos}{env:Env}(hb:cD o=true)(hf:methodCallForm (es.length+([]:List Keyword).length) (backTo pos (bm es env)) (backToKw pos (keywordEach [] env))=true)(hl:(apos.endLine ==pos.line)=true):
  eval (.Call (.Attribute o m apos) es [] pos) env=(do
   let ov <-eval o env
   standAt apos.atName
   let(f,first) <-holding [ov] (getMethod ov m (do return (<-importBound o env).getD true))
   callWith pos f first (backTo pos (bm es env)) (backToKw pos (keywordEach [] env))):=by
 show(do
  let ov <-attributeBase o m env (eval o env)
  standAt apos.atName
  methodCall o m apos pos env ov (es.length+([]:List Keyword).length) (backTo pos (bm es env)) (backToKw pos (keywordEach [] env)))=_
 rw[aT hb];unfold methodCall calleeOf methodCallPos;rw[hf,hl]
 rfl
def tK {es:eu}(h:iU S es (e::l)=true)(hl:es.len<20)(env:Env)(cpos:Pos):
  ((backTo cpos (bm (e::l) env)).all (λx=>!x.1)&&(backToKw cpos (keywordEach [] env)).all (λx=>x.1.isSome)
   &&decide ((e::l).length+([]:List Keyword).length+(if([]:List Keyword).isEmpty then 0 else 1)<30))=true:=by
 have h1:=aL h env cpos;have h2:=j5 h;have h3:(backTo cpos (bm (e::l) env)).all (λx=>!x.1)=true:=by
  rw[all_eq_true];intro x hx;rw[any_eq_false]at h1;simpa using h1 x hx
 rw[h3,h2];simp[keywordEach,backToKw]
 omega
def qv {b:Ex}{b':Expr}(h:mE S b b'=true)(n:notStar b'=true)(env:Env)(cpos:Pos):
  ((backTo cpos (bm [b'] env)).all (λx=>!x.1)&&(backToKw cpos (keywordEach [] env)).all (λx=>x.1.isSome)
   &&decide (([b']:List Expr).length+([]:List Keyword).length+(if([]:List Keyword).isEmpty then 0 else 1)<30))=true:=
 tK (es:=.cons b .nil) (by show(mE S b b'&&notStar b'&&true)=true;rw[h,n];rfl) (nw rfl) env cpos
end
variable {K:W.Frag}{H:Hp}{Y:GD}{a:Addr}
section
variable {X:Cx}{G:Gx}{S:Sn}{k:Nat}{E:St->XK}
def fU {x:V}{t:String}(h:tyName x H=some t):eY K H x (.type t):=by
 unfold tyName at h
 split at h
 .cases h;exact .non
 .cases h;exact .bl _
 .cases h;exact .int _
 .cases h;exact .str _
 .split at h
  .rename_i e;cases h;exact .lst e
  .rename_i e;cases h;exact .tup e
  .rename_i e;cases h;exact .dK (.inl e)
  .rename_i e;cases h;exact .dK (.inr ⟨_,e⟩)
  .cases h
 .cases h
def pW {s:Shared}{U:St}{Q:VK}{i:Nat}{b:Bool}{cv:Value}(g:Gd X G S k E)(I:Inv X Y U H s)(o:qq G H a i)
  (e:W.kitOne X.K (.ref (G.R.cad i)) cv=some b) (q:Q (.bl b) H):wpAny (model X.prog X.w) X.A (call (.builtin "isinstance") [.ref a,cv]) (EP X Y U Q) X.xe s:=by
 rcases o with⟨ho,dx,fs,ha⟩|⟨ho,dx,fs,fr,ha⟩
 .obtain⟨c,z⟩:=g.tab.oc i ho;exact fZ I (x:=.ref a) rfl (.ins ha c z.ha z.hn z.htk z.hm) e λtk=>⟨.bl b,H,I.tok _,rfl,q⟩
 .obtain⟨c,z⟩:=g.tab.xc i ho;exact vh I ha c z e λtk=>⟨.bl b,H,I.tok _,rfl,q⟩
def ya (g:Gd X G S k E)(j:Nat):bZ X (.builtin "isinstance") (λvs H Q=>∃ x,vs=[x,.ref (G.R.cad j)]/\fJ G (.own j) x H Q):=by
 intro Y s U H xs us Q I r h;obtain⟨x,rfl,h⟩:=h;obtain⟨u,w',rfl,rx,rT⟩:=vals2 r;obtain rfl:w'=Value.ref (G.R.cad j):=rT;unfold fJ at h;rcases h with⟨t,b,ht,hb,q⟩|⟨a,i,b,rfl,ho,hb,q⟩
 .exact fZ I rx (fU ht) (g.tab.subO t j b hb) λtk=>⟨.bl b,H,I.tok _,rfl,q⟩
 .obtain rfl:u=Value.ref a:=rx;exact pW g I ho (g.tab.sub i j b hb).1 q
def BA (g:Gd X G S k E)(n:String):bZ X (.builtin "isinstance") (λvs H Q=>∃ x,vs=[x,.ty n]/\fJ G (.ty n) x H Q):=by
 intro Y s U H xs us Q I r h;obtain⟨x,rfl,h⟩:=h;obtain⟨u,w',rfl,rx,rT⟩:=vals2 r;obtain rfl:w'=Value.type n:=rT;unfold fJ at h;rcases h with⟨t,b,ht,hb,q⟩|⟨a,i,b,rfl,ho,hb,q⟩
 .exact fZ I rx (fU ht) (g.tab.subB t n b hb) λtk=>⟨.bl b,H,I.tok _,rfl,q⟩
 .obtain rfl:u=Value.ref a:=rx;exact pW g I ho (g.tab.subT i n b hb) q
def xQ {n:String}(h:g7.contains n=true):bootBuiltins (n:Str)=some (.type n):=by
 have h':n ∈ g7:=by simpa using h
 simp only[g7,lv,not_mem_nil,or_false]at h';rcases h' with rfl|rfl|rfl|rfl|rfl|rfl|rfl<;>decide+kernel
abbrev Fw (G:Gx):Cl->V
 | .own c=>.ref (G.R.cad c)
 | .ty n=>.ty n
def DM (g:Gd X G S k E){c:Cl}(h:v8 S c e=true):PE X e (tC (Fw G c)):=by
 unfold v8 at h
 split at h
 .simp only[lw,decide_eq_true_eq]at h;obtain⟨hg,hd⟩:=g.glob h.1;exact kS hg (g.tab.gcl _ _ (g.hT▸h.2)) rfl hd
 .simp only[lw,decide_eq_true_eq]at h;obtain⟨⟨⟨h1,rfl⟩,h3⟩,h4⟩:=h;obtain⟨hg,hd⟩:=g.glob h1;obtain⟨hm,hn⟩:=g.tab.gbl _ (g.hT▸h3);exact ym hg hm (xQ h4) rfl hn hd
 .cases h
def zS (g:Gd X G S k E)(c:Cl):bZ X (.builtin "isinstance") (λvs H Q=>∃ x,vs=[x,Fw G c]/\fJ G c x H Q):=by
 cases c with
 |own j=>exact ya g j
 |ty n=>exact BA g n
def uA (g:Gd X G S k E){i:Nat}{b:Bool}:∀ {cs:List Nat},anyS G i cs=some b->W.kitAny X.K (.ref (G.R.cad i)) ((cs.map λc=>G.R.cad c).map Value.ref)=some b
 | [],h=>h
 |c::cs,h=>by
  have e:∀ b',G.T.sub.lookup (i,c)=some b'->W.kitOne X.K (.ref (G.R.cad i)) (.ref (G.R.cad c))=some b':=λb' hb=>(g.tab.sub i c b' hb).1
  unfold anyS at h;show(match W.kitOne X.K (.ref (G.R.cad i)) (.ref (G.R.cad c)) with|some true=>some true|some false=>W.kitAny X.K (.ref (G.R.cad i)) ((cs.map λc=>G.R.cad c).map Value.ref)|none=>none)=some b
  split at h
  .rename_i q;rw[e _ q];exact h
  .rename_i q;rw[e _ q];exact uA g h
  .cases h
def yW (g:Gd X G S k E){t:String}{b:Bool}:∀ {cs:List Nat},x8 G t cs=some b->W.kitAny X.K (.type t) ((cs.map λc=>G.R.cad c).map Value.ref)=some b
 | [],h=>h
 |c::cs,h=>by
  have e:∀ b',G.T.subO.lookup (t,c)=some b'->W.kitOne X.K (.type t) (.ref (G.R.cad c))=some b':=λb' hb=>g.tab.subO t c b' hb
  unfold x8 at h;show(match W.kitOne X.K (.type t) (.ref (G.R.cad c)) with|some true=>some true|some false=>W.kitAny X.K (.type t) ((cs.map λc=>G.R.cad c).map Value.ref)|none=>none)=some b
  split at h
  .rename_i q;rw[e _ q];exact h
  .rename_i q;rw[e _ q];exact yW g h
  .cases h
def wZ (g:Gd X G S k E)(cs:List Nat):bZ X (.builtin "isinstance") (λvs H Q=>∃ x p,vs=[x,.ref p]/\H p=some (.tup ((cs.map λc=>G.R.cad c).map V.ref))/\ly G cs x H Q):=by
 intro Y s U H xs us Q I r h;obtain⟨x,p,rfl,hp,h⟩:=h;obtain⟨u,w',rfl,rx,rT⟩:=vals2 r;obtain rfl:w'=Value.ref p:=rT;unfold ly at h;rcases h with⟨t,b,ht,hb,q⟩|⟨a,i,b,rfl,ho,hb,q⟩
 .obtain⟨P,Z,hP,hx⟩:=mj I rx (fU (K:=X.K) ht);exact ki I Z hP hx hp (yW g hb) λtk=>⟨.bl b,H,I.tok _,rfl,q⟩
 .obtain rfl:u=Value.ref a:=rx;rcases ho with⟨ho,dx,fs,ha⟩|⟨ho,dx,fs,fr,ha⟩
  .obtain⟨c,z⟩:=g.tab.oc i ho;obtain⟨P,Z,hP,hx⟩:=mj I (x:=.ref a) rfl (.ins ha c z.ha z.hn z.htk z.hm);exact ki I Z hP hx hp (uA g hb) λtk=>⟨.bl b,H,I.tok _,rfl,q⟩
  .obtain⟨c,z⟩:=g.tab.xc i ho;obtain⟨ox,odo,J⟩:=mz I ha;exact ki I (lI (ox:=ox) (odo:=odo) c z) J (λz=>nomatch z) hp (uA g hb) λtk=>⟨.bl b,H,I.tok _,rfl,q⟩
def ua (g:Gd X G S k E):∀ {cs:List Nat}{es:List Expr},pB S cs es=true->PA X es (λU H Q=>Q (cs.map λc=>.ref (G.R.cad c)) H)
 | [],[],_=>dn
 | [],_::_,h=>by cases(show false=true from h)
 |_::_,[],h=>by cases(show false=true from h)
 |c::cs,e::es,h=>by
  unfold pB at h
  split at h
  .rename_i h1 h2;cases h1
  .rename_i c' cs' x p es' h1 h2;cases h1;cases h2;simp only[lw,decide_eq_true_eq]at h;obtain⟨hg,hd⟩:=g.glob h.1.1;exact iV (kS (v:=.ref (G.R.cad _)) hg (g.tab.gcl _ _ (g.hT▸h.1.2)) rfl hd) (ua g h.2) rfl
  .cases h
abbrev tF:Bf->Value
 | .len=>.builtin "len"| .list=>.type "list"| .tuple=>.type "tuple"| .int=>.type "int"| .str=>.type "str"| .min=>.builtin "min"| .max=>.builtin "max"| .abs=>.builtin "abs"| .all=>.builtin "all"| .any=>.builtin "any"| .dict=>.type "dict"| .sum=>.builtin "sum"
def wY (b:Bf):bootBuiltins (uF b:Str)=some (tF b):=by cases b<;>decide+kernel
def qo:∀ {bs:List Bool}{us:List Value},Vals (bs.map V.bl) us->PyProof.Rows.LSm.BoolsAre us bs
 | [],_,h=>by cases h;exact .nil
 |b::bs,_,h=>by
  cases h with
  |cons r1 r2=>
   obtain rfl:_=Value.bool b:=r1;exact .cons b (qo r2)
def rQ (hc:X.calm=true):bZ X (.builtin "all") (λxs H Q=>∃ p,∃ bs:List Bool,xs=[.ref p]/\aF X.K H p (bs.map V.bl)/\Q (.bl (bs.all id)) H):=by
 intro Y s U H xs us Q I r h;obtain⟨p,bs,rfl,hq,q⟩:=h;obtain⟨u,rfl,rx⟩:=vals1 r;cases rx;obtain⟨its,r',pl,hz⟩:=I.list hq;have hb:=qo r';have hl:=pl.isList;have lt:p<s.heap.objs.size:=by obtain⟨_,e,_⟩:=hl;exact sK e
 refine call_all_walk (wpAny_pyIter_list hl ⟨s.heap.objs.size,[s.heap.objs.size,p],[s.heap.objs.size],its.toArray.size,_,_,λi=>(bs[i]?).getD true,rfl,
  Walks.list (A:=X.A.in1) (I.ok.hd hc) _ p (pc lt) its.toArray,⟨⟨_,tz _ rfl,rfl,rfl⟩,hl.push _⟩,λi v s' Q' E' hP hQ=>?_,λh' tk hk=>?_⟩)
 .obtain⟨b,e,rfl⟩:=hb.get i v (by simpa using hP);have hQ:Q' ((bs[i]?).getD _) s':=hQ;rw[e]at hQ;exact bi hQ
 .have e:((List.range its.toArray.size).all λi=>(bs[i]?).getD true)=bs.all id:=by
   rw[ge,hb.length,PyProof.Rows.LSm.range_all]
  rw[e];exact⟨.bl _,H,I.kept (PyProof.Rows.LSm.kept_iter hk),rfl,q⟩
def Dz (g:Gd X G S k E)(b:Bf):bZ X (tF b) (gM G b):=by
 intro Y s U H xs us Q I r h;unfold gM at h;rw[g.hK]at h;cases b with
 |len=>exact uB Y s U H _ us Q I r h
 |list=>
  rcases h with h|⟨hc,p,kvs,rfl,hp,q⟩
  .exact j9 Y s U H _ us Q I r h
  .obtain⟨u,rfl,ru⟩:=vals1 r;cases ru;exact nD (g.cm hc) I hp q
 |tuple=>exact h.elim
 |int=>exact rD Y s U H _ us Q I r h
 |str=>
  rcases h with h|⟨z,rfl,q⟩
  .exact kB Y s U H _ us Q I r h
  .obtain⟨u,rfl,t,rfl⟩:=vals1 r;exact PySem.P.str_of_str ⟨.str z,H,I,⟨_,rfl⟩,q⟩
 |min=>
  rcases h with⟨hc,h|h⟩
  .exact qA (g.cm hc) Y s U H _ us Q I r h
  .exact h.elim
 |max=>exact h.elim
 |abs=>exact h.elim
 |all=>exact rQ (g.cm h.1) Y s U H _ us Q I r h.2
 |any=>exact h.elim
 |dict=>exact h.elim
 |sum=>exact qx (g.cm h.1) Y s U H _ us Q I r h.2
abbrev Ab:Lm->String
 | .append=>"list.append"| .extend=>"list.extend"| .insert=>"list.insert"| .pop=>"list.pop"| .clear=>"list.clear"| .reverse=>"list.reverse"| .count=>"list.count"
def qw (m:Lm):Slot "list" (vb m:Str) (Ab m):=by
 cases m
 .exact PySem.F.slot_list_append
 .exact PySem.F.slot_list_extend
 .exact PySem.F.slot_list_insert
 .exact PySem.F.slot_list_pop
 .exact PySem.F.slot_list_clear
 .exact PySem.F.slot_list_reverse
 .exact PySem.F.slot_list_count
def zq (m:Lm):typeOf (.builtin (Ab m))=pure (.type "method_descriptor"):=by cases m<;>rfl
def tG (hu:X.A.units+200<cLine):zQ X "list.index" (λx vs H Q=>∃ l y,x=.ref l/\vs=[y]/\ui X.K l y H Q):=by
 intro Y s U H x vs v us Q I rx rv h;obtain⟨l,y,rfl,rfl,h⟩:=h;unfold ui at h;obtain⟨xs,e,j,xj,hH,h10,he,hj,ej,hm,q⟩:=h;cases rx;cases rv with
 |cons ry rr=>
  cases rr;obtain⟨z,its,n,r,hl,eh⟩:=I.j0 hH;have ab:∀ (m:Nat) (hm:m<its.toArray.size),∃ x,xs[m]? =some x/\RelV x its.toArray[m]:=λm hm=>by
   have hlen:=r.length;have h1:xs[m]? =some (xs[m]'(by simp at hm;omega)):=lf _;obtain⟨u,hu,ru⟩:=r.get h1;refine⟨_,h1,?_⟩;have:its.toArray[m]=u:=by
    have:=ss.mp hu;simpa using this.2
   rw[this];exact ru
  have hjl:=(ss.mp hj).1;have hlen:=r.length;have val:∀ (m:Nat) (hm:m<its.toArray.size) x,xs[m]? =some x->(match Ay its.toArray[m] with|some x=>e x|none=>false)=e x:=λm hm x hx=>by
   obtain⟨x',h1,h2⟩:=ab m hm;rw[hx]at h1;cases h1;rw[h2.abs]
  refine call_meets PySem.F.slot_list_index ⟨_,eh,rfl⟩ PySem.F.entry_list_index (PySem.F.args_list_index_2 _ _) (SeqAt.list_indexAt l its.toArray n none #[] _ (λu=>match Ay u with|some x=>e x|none=>false) j (by simp;omega) nofun ((val j (by simp;omega) xj hj).trans ej) (λm hm' hlt=>?_)) ⟨eh,λu hu'=>?_,?_⟩
  .obtain⟨x',h1,h2⟩:=ab m hm';rw[val m hm' x' h1];exact hm m x' hlt h1
  .obtain⟨m,hm',rfl⟩:=Array.getElem_of_mem hu';obtain⟨x',h1,h2⟩:=ab m hm';obtain⟨k,hk,ek⟩:=he x' (cr h1);have:=(iq I ek (A:=X.A.in1) (by show X.A.units+_+k<cLine;omega) h2 ry).1;rw[val m hm' x' h1];exact this
  .exact⟨.int _,H,I.tok _,⟨_,rfl⟩,q⟩
abbrev F5 (m:Lm):V->List V->Hp->VK->Prop:=λx vs H Q=>∃ p xs,x=.ref p/\H p=some (.lst xs)/\vU m p xs vs H Q
def yw (m:Lm):zQ X (Ab m) (F5 m):=by
 intro Y s U H x vs v us Q I rx rv h;obtain⟨p,xs,rfl,hp,h⟩:=h;unfold vU at h;cases m with
 |append=>
  obtain⟨y,rfl,h⟩:=h;exact fW Y s U H _ _ v us Q I rx rv ⟨p,xs,_,rfl,rfl,hp,Nat.lt_of_le_of_lt h.1 (by decide),h.2⟩
 |extend=>
  obtain⟨b,zs,rfl,hz,hl,q⟩:=h;exact rm Y s U H _ _ v us Q I rx rv ⟨p,_,xs,zs,rfl,rfl,hp,hz,eO nofun,q⟩
 |insert=>exact h.elim
 |pop=>exact h.elim
 |clear=>
  obtain⟨rfl,h⟩:=h;exact u1 Y s U H _ _ v us Q I rx rv ⟨p,xs,rfl,rfl,hp,h⟩
 |reverse=>exact h.elim
 |count=>exact h.elim
abbrev zO:Sm->String
 | .join=>"str.join"| .split=>"str.split"| .starts=>"str.startswith"
def yi (m:Sm):Slot "str" (uU m:Str) (zO m):=by
 cases m
 .exact PySem.F.slot_str_join
 .exact PySem.F.slot_str_split
 .exact PySem.F.slot_str_startswith
def Du (m:Sm):typeOf (.builtin (zO m))=pure (.type "method_descriptor"):=by cases m<;>rfl
abbrev FN (K:W.Frag)(m:Sm):V->List V->Hp->VK->Prop:=λx vs H Q=>∃ z y,x=.str z/\vs=[y]/\CF K m z y H Q
def DE (m:Sm):zQ X (zO m) (FN X.K m):=by
 intro Y s U H x vs v us Q I rx rv h;obtain⟨z,y,rfl,rfl,h⟩:=h;unfold CF at h;cases m with
 |join=>exact ye Y s U H _ _ v us Q I rx rv h
 |split=>exact h.elim
 |starts=>exact h.elim
def ue {m:Str}{apos pos:Pos}{ta:TE}{t:TA}{pl:Sem Bool}{n:Nat}(g:Gd X G S k E)(hc:G.cm=true)(he:PE X o ta)(ha:PA X es t)
  (hnil:es=[]->∀ U H R,t U H R->R [] H) (hst:∀ e r,es=e::r->bm es X.env=(false,eval e X.env)::bm r X.env) (hpl:∀ e r,es=e::r->(backTo pos (bm r X.env)).any (·.1)=false)
  (ht:eval (.Call (.Attribute o m apos) es [] pos) X.env=(do
   let ov <-eval o X.env
   standAt apos.atName
   let(f,first) <-holding [ov] (getMethod ov m pl)
   callWith pos f first (backTo pos (bm es X.env)) (backToKw pos (keywordEach [] X.env)))):
  PE X (.Call (.Attribute o m apos) es [] pos) (λU H Q=>ta U H λx H1=>∃ p i dx fs f,x=.ref p/\H1 p=some (.ins (G.R.cad i) dx fs)/\fs.lookup m=none/\G.T.me.lookup (i,m)=some f/\
   t U H1 λvs H2=>G.Ψ f (x::(vs++dflt G f n)) H2 Q (E U)):=by
 intro Y s U H Q I h;refine W.methodCall_KW (pl:=pl) (aB (he Y s U H _ I h) λu s1 ⟨x,H1,I1,rx,a,i,dx,fs,f,ex,ea,l,hf,q⟩=>?_) ht;subst ex;obtain rfl:u=Value.ref a:=rx;obtain⟨c,hm,d,hd⟩:=g.tab.me i m f hf;obtain⟨fd,F,B⟩:=(g.fns f d hd).fact;have hr:bh k X.A:=(g.room hc).mono (Nat.le_succ _);obtain⟨ds,hb,hv⟩:∃ ds,Binds X.K fd d.ps ds/\Vals (dflt G f n) ds:=by
  unfold dflt;rw[hd];exact B _
 refine oq I1 ea c hm l ?_;cases es with
 |nil=>
  refine W.callWith_K0 (first:=[.ref a]) I1.bp hm.kp ?_;exact km (us:=[.ref a]) (vs:=[.ref a]) F hr hb hv g.pass I1 (.cons rfl .nil) (hnil rfl _ _ _ q)
 |cons e r=>
  refine W.callWith_K (first:=[.ref a]) (h₀:=X.base) I.ok.mod.kin hm.kp (aB (ha pos Y s1 U H1 _ I1 q) λus s2 ⟨vs,H2,I2,r,q2⟩=>⟨I2.bp,?_⟩) (hst e r rfl) (hpl e r rfl);exact km (us:=.ref a::us) (vs:=.ref a::vs) F hr hb hv g.pass I2 (.cons rfl r) q2
end
def zm {α β:Type}{f:α->Option β}:∀ {l:List α}{j:Nat}{y:β},(∀ a ∈ l,(f a).isSome=true)->(l.filterMap f)[j]? =some y->∃ a,l[j]? =some a/\f a=some y
 | [],_,_,_,h=>by simp at h
 |a::l,j,y,hs,h=>by
  obtain⟨b,hb⟩:=Option.isSome_iff_exists.mp (hs a li);rw[filterMap_cons,hb]at h;cases j with
  |zero=>simp at h;exact⟨a,rfl,by rw[hb,h]⟩
  |succ j=>
   simp at h;obtain⟨a',h1,h2⟩:=zm (λa ha=>hs a (dl _ ha)) h;exact⟨a',by simpa using h1,h2⟩
def uY {α β:Type}{f:α->Option β}:∀ {l:List α},(∀ a ∈ l,(f a).isSome=true)->(l.filterMap f).length=l.length
 | [],_=>rfl
 |a::l,hs=>by
  obtain⟨b,hb⟩:=Option.isSome_iff_exists.mp (hs a li);rw[filterMap_cons,hb];simp[uY (λa ha=>hs a (dl _ ha))]
abbrev iA (env:Env):Str×NameKind->List (Str×Addr)->Sem (ForInStep (List (Str×Addr))):=λnk r=>do
 let cs:=r
 if(nk.2 ==NameKind.free)=true then do
  let a <-cellOf env nk.1
  pure (ForInStep.yield ((nk.1,a)::cs))
 else pure (ForInStep.yield cs)
def k6 {env:Env}:∀ (names:List (Str×NameKind)) (cs:List (Str×Addr)),(∀ y ∈ names,y.2=.free->∃ c,env.cells.lookup y.1=some c)->
  ∃ cl,(forIn names cs (iA env):Sem _)=pure cl/\(∀ y c,cl.lookup y=some c->cs.lookup y=some c\/env.cells.lookup y=some c)/\(∀ y,(cs.lookup y).isSome=true->(cl.lookup y).isSome=true)/\∀ y ∈ names,y.2=.free->(cl.lookup y.1).isSome=true
 | [],cs,_=>⟨cs,rfl,λy c h=>.inl h,λy h=>h,λy hy=>absurd hy (by simp)⟩
 |(n,kd)::r,cs,h=>by
  by_cases hk:kd=.free
  .subst hk;obtain⟨c,hc⟩:=h (n,.free) li rfl;obtain⟨cl,h1,h2,h3,h4⟩:=k6 r ((n,c)::cs) λy hy=>h y (dl _ hy)
   have self:(((n,c)::cs).lookup n).isSome=true:=by simp[lookup_cons]
   refine⟨cl,?_,λy d q=>?_,λy q=>h3 y ?_,λy hy hf=>?_⟩
   .rw[forIn_cons];have e:iA env (n,.free) cs=pure (ForInStep.yield ((n,c)::cs)):=by
     unfold iA;simp only[cellOf,hc]
     rfl
    rw[e];exact h1
   .rcases h2 y d q with q|q
    .rw[lookup_cons]at q
     by_cases e:y=n
     .subst e;simp at q;subst q;exact .inr hc
     .rw[show(y ==n)=false from beq_eq_false_iff_ne.mpr e]at q;exact .inl q
    .exact .inr q
   .rw[lookup_cons];cases(y ==n)<;>simp[q]
   .rcases lv.mp hy with rfl|hy
    .exact h3 _ self
    .exact h4 y hy hf
  .obtain⟨cl,h1,h2,h3,h4⟩:=k6 r cs λy hy=>h y (dl _ hy)
   refine⟨cl,?_,h2,h3,λy hy hf=>?_⟩
   .rw[forIn_cons];have e:iA env (n,kd) cs=pure (ForInStep.yield cs):=by
     unfold iA;cases kd<;>first|rfl|exact absurd rfl hk
    rw[e];exact h1
   .rcases lv.mp hy with rfl|hy
    .exact absurd hf hk
    .exact h4 y hy hf
variable {scope:Scope}
def yl {env:Env}(h:∀ y ∈ scope.names,y.2=.free->∃ c,env.cells.lookup y.1=some c):
  ∃ cl,closureFor scope env=pure cl/\(∀ y c,cl.lookup y=some c->env.cells.lookup y=some c)/\∀ y ∈ scope.names,y.2=.free->(cl.lookup y.1).isSome=true:=by
 obtain⟨cl,h1,h2,_,h4⟩:=k6 scope.names [] h;refine⟨cl,?_,λy c q=>(h2 y c q).resolve_left (by simp),h4⟩;have e:closureFor scope env=(forIn scope.names [] (iA env) >>= λcs=>pure cs):=by
  unfold closureFor iA
  rfl
 rw[e,h1]
 rfl
variable {xs:List Str}{sel:List Nat}
section
variable {X:Cx}{G:Gx}{S:Sn}{k:Nat}{E:St->XK}
def lh (g:Gd X G S k E)(scope:Scope):relabel scope X.env=bU S.sc scope:=by
 unfold relabel bU Env.kindOf;rw[g.sc]
def bj (g:Gd X G S k E)(ok:X.Ok)(h:cU S scope xs sel=true):∃ cl,aU X scope cl xs (sel.filterMap λi=>S.N[i]?) sel:=by
 unfold cU at h;simp only[lw,decide_eq_true_eq,all_eq_true,Bool.or_eq_true,bne_iff_ne,ne_eq]at h;obtain⟨⟨⟨⟨⟨h1,h2⟩,h3⟩,h4⟩,h5⟩,h6⟩:=h;have hs:∀ i ∈ sel,(S.N[i]?).isSome=true:=λi hi=>by
  have:=h5 i hi
  split at this
  .rename_i e;rw[e];rfl
  .cases this
 obtain⟨cl,c1,c2,c3⟩:=yl (env:=X.env) (scope:=scope) λy hy hf=>ok.has y.1 (.inl (by
  show X.env.scope.names.lookup y.1=_;rw[g.sc];exact((h3 y hy).2).resolve_left λz=>z hf))
 refine⟨cl,⟨c1,c2,λy hy=>?_,h1,λy hy=>(h3 y hy).1.1,λy hy hl=>((h3 y hy).1.2).resolve_left λz=>z hl,h4,(uY hs).symm,λj y hj=>?_,h6⟩⟩
 .have:∃ kd,(y,kd) ∈ scope.names/\kd=.free:=by
   rcases hy with hy|hy
   .obtain⟨kd,m,q⟩:=cG hy;rcases q with q|q
    .subst q;exact absurd rfl (h3 _ m).1.1
    .exact⟨kd,m,q.1⟩
   .obtain⟨kd,m,q⟩:=cG hy;rcases q with q|q
    .exact⟨kd,m,q.symm⟩
    .exact nomatch q.2
  obtain⟨kd,m,rfl⟩:=this;exact Option.isSome_iff_exists.mp (c3 _ m rfl)
 .obtain⟨i,hi,hn⟩:=zm hs hj;have q:=h5 i (cr hi);rw[hn]at q;simp only[lw,decide_eq_true_eq]at q;refine⟨i,hi,by rw[g.N];exact hn,by rw[g.sc];exact q.1,by rw[lh g];exact q.2⟩
def Gd.comp (g:Gd X G S k E){cl:List (Str×Addr)}(C:aU X scope cl xs (sel.filterMap λi=>S.N[i]?) sel) (s:Shared) (H:Hp) (fp:List Addr):
  Gd (dQ X scope cl (xs++sel.filterMap λi=>S.N[i]?) s H fp) G { S with sc:=bU S.sc scope,N:=xs++sel.filterMap λi=>S.N[i]? } k (λ_ _ _=>False) where
 hK:=g.hK
 hT:=g.hT
 sc:=lh g scope
 N:=rfl
 nd:=C.nd
 pass:=λY U H s e s' I h=>by
  obtain⟨e,H',C,dx,fs,T,_,_,_,_,_,_,_,_,_,q⟩:=h;exact q.elim
 cm:=g.cm
 room:=g.room
 un:=g.un
 tab:=g.tab
 fns:=g.fns
def lB (env:Env):∀ {is:List Nat}{ts:List Expr},rS S is ts=true->(assignEach ts env).length=is.length/\(assignEach ts env).findIdx? (·.1)=none
 | [],[],_=>⟨rfl,rfl⟩
 | [],_::_,h=>by simp[rS]at h
 |_::_,[],h=>by simp[rS]at h
 |i::is,t::ts,h=>by
  cases t<;>simp[rS]at h
  rename_i x p;obtain⟨h1,h2⟩:=lB env h.2;have e:assignEach (.Name x p::ts) env=(false,assign (.Name x p) env)::assignEach ts env:=rfl;rw[e];refine⟨by simp[h1],?_⟩;rw[List.findIdx?_cons];simp[h2]
def qe (g:Gd X G S k E):∀ {is:List Nat}{ts:List Expr},rS S is ts=true->AK X ts (gl is)
 | [],[],_=>λY s U H vs us Q I r h=>kf Y s U H vs us Q I r ⟨length_eq_zero_iff.mp h.1,by
   have:=h.2;have e:vs=[]:=length_eq_zero_iff.mp h.1;subst e;exact this⟩
 | [],_::_,h=>by simp[rS]at h
 |_::_,[],h=>by simp[rS]at h
 |i::is,t::ts,h=>by
  cases t<;>simp[rS]at h
  rename_i x p;have hl:X.env.scope.names.lookup x=some .local:=by rw[g.sc];exact h.1.2
  have h1:PG X (.Name x p) (eP i):=fK (by rw[g.N];exact g.nd) (by rw[g.N];exact h.1.1) (.inl hl) (.inr hl);have h2:=qe g h.2;intro Y s U H vs us Q I r q;refine eC h1 h2 rfl Y s U H vs us Q I r ?_;obtain⟨hl,q⟩:=q;cases vs with
  |nil=>simp at hl
  |cons v vs=>exact⟨v,vs,rfl,by simpa using hl,q⟩
def pf (g:Gd X G S k E)(hc:G.cm=true){n kt:Nat}{ts:List Expr}{pt:Pos}(h:rS S (List.range n) ts=true):PG X (.Tuple ts kt pt) (wK G.R.K n (gl (List.range n))):=by
 obtain⟨e1,e2⟩:=lB X.env h;rw[length_range]at e1;rw[g.hK];exact kh (g.cm hc) (qe g h) e1 e2
def pU {n:Nat}(h:xs.length=n):lr xs=sn n none:=by
 subst h;unfold lr;rw[List.map_const']
end
set_option maxHeartbeats 2000000
variable {r:List Expr}{p:Pos}{U:L2.St}{s1:Shared}{R:It->Hp->Prop}{keys:List (Option Expr)}
section
variable {G:Gx}{k:Nat}
def iT {o1 o2:CmpOp}{c:Expr}(h:bW c=true):lastMarks [o1,o2] [b,c]=false:=by
 show behindInMarks o2 c=false;exact c9 h _
def uS {t:TE}(h:PE X (match r with| []=>b|_=>.BoolOp .And (b::r) p) t):PE X (.BoolOp .And (b::r) p) t:=by
 cases r with
 |nil=>exact vC h
 |cons c r=>exact h
def tw {t:TE}(h:PE X (match r with| []=>b|_=>.BoolOp .Or (b::r) p) t):PE X (.BoolOp .Or (b::r) p) t:=by
 cases r with
 |nil=>exact vC h
 |cons c r=>exact h
def yS {op:BoolOp}(h:PT X (.BoolOp op l p) t):PW X (.BoolOp op l p) t:=λwhole Y s U H Q I q=>by
 have:=h Y s U H Q I q;exact this
def uG (h:PT X (match r with| []=>b|_=>.BoolOp .And (b::r) p) t):PW X (.BoolOp .And (b::r) p) t:=by
 cases r with
 |nil=>exact wJ h
 |cons c r=>exact yS h
def tm (h:PT X (match r with| []=>b|_=>.BoolOp .Or (b::r) p) t):PW X (.BoolOp .Or (b::r) p) t:=by
 cases r with
 |nil=>exact z0 h
 |cons c r=>exact yS h
def w8:DP X (unaryOp .USub) (λx H Q=>match x with| .int i=>Q (.int (-i)) H|_=>False):=by
 intro Y s U H x v Q I r h
 split at h
 .exact(L2.BE Y s U H _ v Q I r ⟨_,rfl,h⟩)
 .exact h.elim
def qU {CX:pJ}{C f:Addr}{fd:FuncData}{ps:List Str}{sp:Sp}{dvs:List V}{ds:List Value}{E:St->XK}{pos:Pos}(M:DR X.K C f)(F:cC X.prog X.w X.K X.mg X.base CX k f fd ps sp)(hr:bh (k+1) X.A)(hg:Gl X x)(hm:X.mg x=some (.ref C))(hb:Binds X.K fd ps ds)(hd:Vals dvs ds)(hx:Passes CX X E)
  (hdb:(x ==("__debug__":Str))=false):PE X (.Call (.Name x p) [] [] pos) (uM C sp dvs E yb):=by
 intro Y s U H Q I h;refine bv (aY I hg hm ?_ hdb);exact W.callWith_K0 I.bp M.kp (js (us:=[]) M F hr hb hd hx (Nat.zero_le _) I .nil h.2)
def bT.bX {f:Value->Value->Sem Value}{r:R2}(h:bT X f r):bT X f (λx y H R=>∃ Q,r x y H Q/\∀ z H1,Q z H1->R z H1):=λY s U H x y v u R I rx ry ⟨Q,q,i⟩=>
 aB (h Y s U H x y v u Q I rx ry q) λ_ _ ⟨v,H',J,r,z⟩=>⟨v,H',J,r,i _ _ z⟩
section
open PyProof.Rows
def rq {tg:Expr}{H1:Hp}{v:Value}{xs:List V}(I1:Inv X Y U H1 s1)(r:RelV (.ref a) v)(hq:aF X.K H1 a xs)(q:R (xR X.K a) H1):
  wpAny (model X.prog X.w) X.A (pyIter v) (Ae X Y U tg R) X.xe s1:=by
 cases r;obtain⟨its,rv,p,hz⟩:=I1.list hq;refine wpAny_pyIter_list p.isList ?_;refine⟨s1.heap.objs.size,[s1.heap.objs.size],_,_,H1,rfl,I1.kept (t':=s1.toks) λb o e=>sw _ e,rC a _,⟨_,tz _ rfl,rfl,rfl⟩,λb hb=>?_,q⟩;have e:b=s1.heap.objs.size:=by simpa using hb
 subst e;exact I1.rh (pi _) (I1.hok.fresh (pi _))
def sR {tg:Expr}{H1:Hp}{v:Value}{xs:List V}(I1:Inv X Y U H1 s1)(r:RelV (.ref a) v)(hq:bF X.K H1 a xs)(q:R (Dc X.K a) H1):
  wpAny (model X.prog X.w) X.A (pyIter v) (Ae X Y U tg R) X.xe s1:=by
 cases r;obtain⟨its,rv,p,hz⟩:=I1.tuple hq;refine wpAny_pyIter_tuple (show s1.heap.IsTuple a its.toArray from p) ?_;refine⟨s1.heap.objs.size,[s1.heap.objs.size],_,_,H1,rfl,I1.kept (t':=s1.toks) λb o e=>sw _ e,n8 a _,⟨_,tz _ rfl,rfl,rfl⟩,λb hb=>?_,q⟩;have e:b=s1.heap.objs.size:=by simpa using hb
 subst e;exact I1.rh (pi _) (I1.hok.fresh (pi _))
end
def Av {x:V}{Q:Bool->Hp->Prop}(h:Bd K x H Q):∃ k,xN K x H k/\Q k H:=by
 unfold Bd at h
 split at h
 .exact⟨_,rfl,h⟩
 .exact h
abbrev Fg:List Str->List V->List (V×V)
 |k::ks,x::xs=>(.str k,x)::Fg ks xs
 |_,_=>[]
def rJ {k:Str}{ks:List Str}(h:rB (k::ks) keys=true):∃ j p r,keys=some (.Constant (.str k) j p)::r/\rB ks r=true:=by
 unfold rB at h
 split at h
 .rename_i e;cases e
 .rename_i k' ks' x j p r e
  injection e with e1 e2
  subst e1 e2;simp only[lw,decide_eq_true_eq]at h;obtain⟨rfl,h⟩:=h;exact⟨_,_,_,rfl,h⟩
 .cases h
def vQ (h:rB [] keys=true):keys=[]:=by
 cases keys with
 |nil=>rfl
 |cons a r=>cases(show false=true from h)
mutual
theorem sE:∀ (x:Ex){X:Cx}{S:Sn}{E:St->XK},Gd X G S k E->∀ {e:Expr},mE S x e=true->PE X e (λU H Q=>wE G x U H Q (E U))
 | .v i,X,S,E,g,e,h=>by
  sleep 1
  simp only[lw,decide_eq_true_eq]at h;obtain⟨h1,h2⟩:=h;obtain⟨v1,v2,v3⟩:=g.zA h2;refine PE.imp (zT (i:=i) (by rw[g.N];exact h1) v1 v2 v3) λU H Q q=>?_
  conv at q=>whnf
  split at q
  .rename_i e;exact⟨_,e,q⟩
  .exact q.elim
 | .int i,X,S,E,g,e,h=>by
  sleep 2
  simp only[decide_eq_true_eq]at h;subst h;exact AO
 | .bl i,X,S,E,g,e,h=>by
  sleep 2
  simp only[decide_eq_true_eq]at h;subst h;exact Dp
 | .non,X,S,E,g,e,h=>by
  sleep 2
  exact Bc
 | .str i,X,S,E,g,e,h=>by
  sleep 2
  simp only[decide_eq_true_eq]at h;subst h;exact uq
 | .gl x,X,S,E,g,e,h=>by
  sleep 1
  simp only[lw,decide_eq_true_eq]at h;obtain⟨rfl,h2⟩:=h;obtain⟨hg,hd⟩:=g.glob h2;intro Y s U H Q I q
  conv at q=>whnf
  split at q
  .rename_i v e;obtain⟨u,hm,r⟩:=g.tab.gl _ v e;exact kS hg hm r hd Y s U H Q I q
  .exact q.elim
 | .bin op a b,X,S,E,g,e,h=>by
  sleep 1
  simp only[lw,decide_eq_true_eq]at h;obtain⟨⟨rfl,ha⟩,hb⟩:=h;exact Ci (g.bin op) (sE a g ha) (sE b g hb)
 | .neg a,X,S,E,g,e,h=>by
  sleep 2
  exact Cv w8 (sE a g h)
 | .not a,X,S,E,g,e,h=>by
  sleep 2
  refine PE.imp (BO (PE.bX (sE a g h))) λU H Q q=>⟨_,q,λx H1 z=>?_⟩
  split at z
  .exact⟨_,rfl,z⟩
  .exact z.elim
 | .and a b,X,S,E,g,e,h=>by
  sleep 3
  simp only[lw]at h;refine PE.imp (Ax (PE.bX (sE a g h.1)) (uS (sE b g h.2))) λU H Q q=>⟨_,q,λx H1 z=>?_⟩
  split at z
  .rw[dm]at z;exact⟨_,rfl,z⟩
  .exact z.elim
 | .or a b,X,S,E,g,e,h=>by
  sleep 3
  simp only[lw]at h;refine PE.imp (Di (PE.bX (sE a g h.1)) (tw (sE b g h.2))) λU H Q q=>⟨_,q,λx H1 z=>?_⟩
  split at z
  .rw[dm]at z;exact⟨_,rfl,z⟩
  .exact z.elim
 | .cmp op a b,X,S,E,g,e,h=>by
  sleep 3
  simp only[lw,decide_eq_true_eq]at h;obtain⟨⟨⟨rfl,ha⟩,hb⟩,hn⟩:=h;exact xG (g.cmp op) (sE a g ha) (sE b g hb) (c9 hn _)
 | .cmp2 o1 o2 a b c,X,S,E,g,e,h=>by
  sleep 3
  simp only[lw,decide_eq_true_eq]at h;obtain⟨⟨⟨⟨⟨rfl,rfl⟩,ha⟩,hb⟩,hc⟩,hn⟩:=h;refine PE.imp (tZ (bT.bX (g.cmp o1)) (g.cmp o2) (PE.bX (sE a g ha)) (PE.bX (sE b g hb)) (sE c g hc) (iT hn)) λU H Q q=>⟨_,q,λx H1 q1=>⟨_,q1,λy H2 q2=>⟨_,q2,λz H3 q3=>?_⟩⟩⟩
  split at q3
  .rw[dm]at q3;exact⟨_,rfl,q3⟩
  .exact q3.elim
 | .cmp3 o1 o2 o3 a b c d,X,S,E,g,e,h=>by cases(show false=true from h)
 | .ife c a b,X,S,E,g,e,h=>by
  sleep 1
  simp only[lw]at h;exact PE.imp (sX (PT.bX (sT c g h.1.1)) (sE a g h.1.2) (sE b g h.2)) λU H Q q=>⟨_,q,λk H1 z=>by rwa [dm]at z⟩
 | .tup es,X,S,E,g,e,h=>by
  sleep 1
  refine PE.imp (tD (PA.bX (rX es g h))) λU H Q q=>⟨_,q,λx H1 z=>by unfold fN at z;exact⟨eO (by have:=z.1;omega),z.2⟩⟩
 | .lst es,X,S,E,g,e,h=>by
  sleep 1
  refine PE.imp (zL (PA.bX (rX es g h))) λU H Q q=>⟨_,q,λx H1 z=>by unfold xJ at z;exact⟨eO (by have:=z.1;omega),z.2⟩⟩
 | .ix a i,X,S,E,g,e,h=>by
  sleep 1
  simp only[lw]at h;have hr:BZ X (pH G.R.K):=g.hK▸nN g.un;exact Ds hr (sE a g h.1.1) (sE i g h.1.2) (oh h.2)
 | .sl a lo hi,X,S,E,g,e,h=>by
  sleep 3
  simp only[lw]at h;have hr:Cf X (yO G.R.K):=g.hK▸BD;exact uO hr (sE a g h.1.1) (sO lo g h.1.2) (sO hi g h.2)
 | .fld a f,X,S,E,g,e,h=>by
  sleep 1
  simp only[lw,decide_eq_true_eq]at h;obtain⟨⟨ha,rfl⟩,hn⟩:=h;intro Y s U H Q I q;have q':wE G a U H (λx H1=>nA G f x H1 Q) (E U):=q;refine wX (aT hn _ _ _) (aB (sE a g ha Y s U H _ I q') λu s1 ⟨x,H1,I1,rx,qf⟩=>?_);unfold nA at qf;obtain⟨a,i,fs,v,ex,ea,hna,l,q⟩:=qf;subst ex;obtain rfl:u=Value.ref a:=rx;have n:=g.tab.na i f hna;rcases ea with⟨ho,dx,ea⟩|⟨ho,dx,fr,ea⟩
  .exact nM I1 ea (g.tab.oc i ho).1 n l λu' s' J rv=>⟨v,H1,J,rv,q⟩
  .exact qK I1 ea (g.tab.xc i ho).1 n l λu' s' J rv=>⟨v,H1,J,rv,q⟩
 | .call f es,X,S,E,g,e,h=>by
  sleep 3
  rename_i es' pos _ xn p1 _;simp only[lw,decide_eq_true_eq]at h;obtain⟨⟨h1,h2⟩,h3⟩:=h;obtain⟨hg,hdb⟩:=g.glob h1;obtain⟨hm,hk,d,hd⟩:=g.tab.gfn _ _ (g.hT▸h2);obtain⟨fd,F,B⟩:=(g.fns f d hd).fact;obtain⟨ds,hb,hv⟩:∃ ds,Binds X.K fd d.ps ds/\Vals (dflt G f es.len) ds:=by
   unfold dflt;rw[hd];exact B _
  intro Y s U H Q I q;obtain⟨hc,q⟩:=(show G.cm=true/\wEs G es U H (λvs H1=>G.Ψ f (vs++dflt G f es.len) H1 Q (E U)) (E U) from q);have hr:bh k X.A:=(g.room hc).mono (Nat.le_succ _);cases es' with
  |nil=>
   cases es with
   |nil=>exact uT F hr hg hm hk hb hv g.pass hdb Y s U H Q I q
   |cons _ _=>cases(show false=true from h3)
  |cons e0 er=>
   have PAs:=rX es g h3;obtain⟨ns,x0,xr,rfl,h4⟩:=aZ h3;exact wq F hr hg hm hk hb hv g.pass PAs hdb (ag ns) (aL h4 _ _) Y s U H Q I q
 | .meth a m es,X,S,E,g,e,h=>by
  sleep 3
  rename_i es' pos _ a' m' apos _;simp only[lw,decide_eq_true_eq]at h;obtain⟨⟨⟨⟨⟨ha,rfl⟩,h3⟩,h4⟩,h5⟩,h6⟩:=h;intro Y s U H Q I q;obtain⟨hc,q⟩:=(show G.cm=true/\_ from q);refine ue (n:=es.len+1) g hc (sE a g ha) (rX es g h3) (λz U H R hr=>?_) (λe r z=>?_) (λe r z=>?_) (jC h4 (pA h3 h6 _ _) h5) Y s U H Q I q
  .subst z;cases es with
   |nil=>exact hr
   |cons _ _=>cases(show false=true from h3)
  .subst z;exact ag (aZ h3).1
  .subst z;have PAs:=rX es g h3;obtain⟨ns,x0,xr,rfl,h4⟩:=aZ h3;exact aL h4 _ _
 | .lm m a es,X,S,E,g,e,h=>by
  sleep 3
  rename_i es' pos _ a' m' apos _;simp only[lw,decide_eq_true_eq]at h;obtain⟨⟨⟨⟨⟨ha,rfl⟩,h3⟩,h4⟩,h5⟩,h6⟩:=h;cases es' with
  |nil=>
   cases es with
   |nil=>exact PE.imp (BC PySem.F.plainAttrs_list (qw m) (zq m) (yw m) (PE.bX (sE a g ha)) (aT h4 _ _ _) h5) λU H Q q=>⟨_,q,λx H1 z=>by
     obtain⟨p,xs0,ex,hp,q⟩:=z;subst ex;obtain⟨xs,h1,h2⟩:=q;exact⟨.inl ⟨rfl,xs0,aF.of hp⟩,p,xs,rfl,h1,h2⟩⟩
   |cons _ _=>cases(show false=true from h3)
  |cons e0 er=>
   have PAs:=rX es g h3;obtain⟨ns,x0,xr,rfl,h7⟩:=aZ h3;exact PE.imp (vE PySem.F.plainAttrs_list (qw m) (zq m) (yw m) (PE.bX (sE a g ha)) (PA.bX PAs) (aT h4 _ _ _) (tK h3 h6 _ _) h5 (ag ns) (aL h7 _ _)) λU H Q q=>⟨_,q,λx H1 z=>by
     obtain⟨p,xs0,ex,hp,q⟩:=z;subst ex;exact⟨.inl ⟨rfl,xs0,aF.of hp⟩,_,q,λvs H2 ⟨xs,h1,h2⟩=>⟨p,xs,rfl,h1,h2⟩⟩⟩
 | .dget a k d,X,S,E,g,e,h=>by cases(show false=true from h)
 | .rev a b,X,S,E,g,e,h=>by
  sleep 5
  simp only[lw]at h;exact PE.imp (BG (PE.bX (sE a g h.1)) (pk (PE.bX (sE b g h.2)))) λU H Q q=>⟨_,q,λx H1 z=>⟨_,z,λy H2 z=>by
   unfold yf at z;obtain⟨rfl,q⟩:=z;exact⟨-1,rfl,rfl,g.hK▸q⟩⟩⟩
 | .lix a b,X,S,E,g,e,h=>by
  sleep 4
  simp only[lw,decide_eq_true_eq]at h;obtain⟨⟨⟨⟨⟨ha,rfl⟩,h3⟩,n1⟩,h4⟩,h5⟩:=h;exact PE.imp (vE PySem.F.plainAttrs_list PySem.F.slot_list_index rfl (tG g.un) (PE.bX (sE a g ha)) (iV (PE.bX (sE b g h3)) dn n1) (aT h4 _ _ _) (qv h3 n1 _ _) h5 (ag n1) rfl) λU H Q q=>⟨_,q,λx H1 z=>by
   obtain⟨p,xs0,ex,hp,q⟩:=z;subst ex;exact⟨.inl ⟨rfl,xs0,aF.of hp⟩,_,q,λy H2 z=>⟨p,y,rfl,rfl,g.hK▸z⟩⟩⟩
 | .make c es,X,S,E,g,e,h=>by
  sleep 3
  rename_i es' pos _ xn p1 _;simp only[lw,decide_eq_true_eq]at h;obtain⟨⟨h1,h2⟩,h3⟩:=h;obtain⟨hg,hdb⟩:=g.glob h1;have hm:=g.tab.gcl _ _ (g.hT▸h2);intro Y s U H Q I q
  conv at q=>whnf
  obtain⟨hc,q⟩:=q
  split at q
  .obtain⟨h0,q⟩:=q;cases es' with
   |nil=>
    cases es with
    |nil=>exact absurd q.1 (by decide)
    |cons _ _=>cases(show false=true from h3)
   |cons e0 er=>
    have PAs:=rX es g h3;obtain⟨ns,x0,xr,rfl,h4⟩:=aZ h3;exact tO (g.tab.ini0 c h0) hg hm PAs hdb (ag ns) (aL h4 _ _) Y s U H Q I q
  .rename_i f hf;obtain⟨⟨d,hd⟩,hmk⟩:=g.tab.ini c f hf;obtain⟨fd,F,B⟩:=(g.fns f d hd).fact;obtain⟨ds,hb,hv⟩:∃ ds,Binds X.K fd d.ps ds/\Vals (dflt G f (es.len+1)) ds:=by
    unfold dflt;rw[hd];exact B _
   have hr:=g.room hc
   split at q
   .rename_i hx;rw[if_pos hx]at hmk;cases es' with
    |nil=>
     cases es with
     |nil=>exact qU hmk F hr hg hm hb hv g.pass hdb Y s U H Q I q
     |cons _ _=>cases(show false=true from h3)
    |cons e0 er=>
     have PAs:=rX es g h3;obtain⟨ns,x0,xr,rfl,h4⟩:=aZ h3;exact vo hmk F hr hg hm hb hv g.pass PAs hdb (ag ns) (aL h4 _ _) Y s U H Q I q
   .rename_i hx;rw[if_neg hx]at hmk;cases es' with
    |nil=>
     cases es with
     |nil=>exact tJ hmk F hr hg hm hb hv g.pass hdb Y s U H Q I q
     |cons _ _=>cases(show false=true from h3)
    |cons e0 er=>
     have PAs:=rX es g h3;obtain⟨ns,x0,xr,rfl,h4⟩:=aZ h3;exact xE hmk F hr hg hm hb hv g.pass PAs hdb (ag ns) (aL h4 _ _) Y s U H Q I q
 | .bini es,X,S,E,g,e,h=>by
  sleep 4
  rename_i es' pos _ mm p2 _ xn p1 _;simp only[lw,decide_eq_true_eq]at h;obtain⟨⟨⟨⟨⟨h1,rfl⟩,h2⟩,h3⟩,h4⟩,h5⟩:=h;obtain⟨hg,hdb⟩:=g.glob h1;obtain⟨B,hm,hB⟩:=g.tab.gbi _ (g.hT▸h2);cases es' with
  |nil=>
   cases es with
   |nil=>cases h4
   |cons _ _=>cases(show false=true from h3)
  |cons e0 er=>
   have PAs:=rX es g h3;obtain⟨ns,x0,xr,rfl,h7⟩:=aZ h3;refine PE.imp (zD hB hg hm (PA.bX PAs) hdb (ag ns) (aL h7 _ _) (jC (o:=.Name _ _) rfl (pA h3 (by rw[h4];decide) _ _) h5)) λU H Q q=>⟨_,q,λvs H1 z=>?_⟩
   obtain⟨a,i,dx,fs,fr,v,ev,ea,hi,q⟩:=z;exact⟨a,_,dx,fs,fr,v,ev,ea,(g.tab.xc i hi).1,q⟩
 | .cini c es,X,S,E,g,e,h=>by cases(show false=true from h)
 | .bf b es,X,S,E,g,e,h=>by
  sleep 3
  rename_i es' pos _ xn p1 _;simp only[lw,decide_eq_true_eq]at h;obtain⟨⟨⟨⟨h1,rfl⟩,h2⟩,h3⟩,h4⟩:=h;obtain⟨hg,hdb⟩:=g.glob h1;obtain⟨hm,hn⟩:=g.tab.gbl _ (g.hT▸h2);cases es' with
  |nil=>
   cases es with
   |nil=>exact absurd h4 (by decide)
   |cons _ _=>cases(show false=true from h3)
  |cons e0 er=>
   have PAs:=rX es g h3;obtain⟨ns,x0,xr,rfl,h7⟩:=aZ h3;have hb:=wY b;have hk:=Dz g b;have key:∀ {v:Value},tF b=v->(∃ i,v=.builtin i)\/(∃ i,v=.type i):=by
    intro v hv;subst hv;cases b<;>first|exact .inl ⟨_,rfl⟩|exact .inr ⟨_,rfl⟩
   rcases key rfl with⟨i,hi⟩|⟨i,hi⟩
   .rw[hi]at hb hk;exact iK hk hg hm hb PAs hn hdb (ag ns) (aL h7 _ _)
   .rw[hi]at hb hk;exact qC hk hg hm hb PAs hn hdb (ag ns) (aL h7 _ _)
 | .isi a c,X,S,E,g,e,h=>by
  sleep 4
  rename_i pos _ xn p1 _ _ a' c';simp only[lw,decide_eq_true_eq]at h;obtain⟨⟨⟨⟨h1,rfl⟩,h2⟩,h3⟩,h4⟩:=h;obtain⟨hg,hdb⟩:=g.glob h1;obtain⟨hm,hn⟩:=g.tab.gbl _ (g.hT▸h2);have n1:notStar a'=true:=by
   cases a'<;>first|rfl|(cases a<;>cases(show false=true from h3))
  have n2:notStar c'=true:=by
   cases c'<;>first|rfl|(cases c<;>simp[v8]at h4)
  refine PE.imp (iK (zS g c) hg hm sV (iV (PE.bX (sE a g h3)) (iV (DM g h4) dn n2) n1) hn hdb (ag n1) ?_) λU H Q q=>⟨_,q,λx H1 z=>⟨x,rfl,z⟩⟩
  rw[ag n2]
  rfl
 | .lc elt sel it,X,S,E,g,e,h=>by
  sleep 2
  split at h
  iterate 3 (split at h;rotate_left;cases h)
  simp only[lw]at h;obtain⟨⟨⟨h1,h2⟩,h3⟩,h4⟩:=h;intro Y s U H Q I q;obtain⟨hc,q⟩:=(show G.cm=true/\wI G it U H (λJ H1=>qQ (λσ' H' Q'=>wE G elt σ' H' Q' (λ_ _=>False)) J (none::c6 U sel) H1 Q) (E U) from q);rw[vJ]at q;obtain⟨cl,C⟩:=bj g I.ok h1;exact vL (g.cm hc) C (sI it g h2) (λs H fp=>sE elt (g.comp C s H fp) h3) (aS h4 _) Y s U H Q I q
 | .lci elt c sel it,X,S,E,g,e,h=>by
  sleep 2
  split at h
  iterate 3 (split at h;rotate_left;cases h)
  simp only[lw]at h;obtain⟨⟨⟨⟨h1,h2⟩,h3⟩,h5⟩,h4⟩:=h;intro Y s U H Q I q;obtain⟨hc,q⟩:=(show G.cm=true/\wI G it U H (λJ H1=>A4 (λσ' H' Q'=>wT G c σ' H' Q' (λ_ _=>False)) (λσ' H' Q'=>wE G elt σ' H' Q' (λ_ _=>False)) J (none::c6 U sel) H1 Q) (E U) from q);rw[uk]at q;obtain⟨cl,C⟩:=bj g I.ok h1;exact fT (g.cm hc) C (sI it g h2) (λs H fp=>kr C) (λs H fp=>pX (sT c (g.comp C s H fp) h5)) (λs H fp=>sE elt (g.comp C s H fp) h3) (aS h4 _) Y s U H Q I q
 | .lct elt n sel it,X,S,E,g,e,h=>by
  sleep 2
  split at h
  iterate 3 (split at h;rotate_left;cases h)
  simp only[lw,decide_eq_true_eq]at h;obtain⟨⟨⟨⟨⟨h1,h5⟩,h6⟩,h2⟩,h3⟩,h4⟩:=h;intro Y s U H Q I q;obtain⟨hc,q⟩:=(show G.cm=true/\wI G it U H (λJ H1=>LCt G.R.K n (λσ' H' Q'=>wE G elt σ' H' Q' (λ_ _=>False)) J (sn n none++c6 U sel) H1 Q) (E U) from q);rw[vg,<-pU h6]at q;obtain⟨cl,C⟩:=bj g I.ok h1;exact fT (g.cm hc) C (sI it g h2) (λs H fp=>pf (g.comp C s H fp) hc h5) (λs H fp=>gS) (λs H fp=>sE elt (g.comp C s H fp) h3) (aS h4 _) Y s U H Q I q
 | .lcu elt c n sel it,X,S,E,g,e,h=>by cases(show false=true from h)
 | .dnew,X,S,E,g,e,h=>by
  sleep 3
  refine PE.imp sN λU H Q q=>?_
  have q':newD H Q:=q;unfold newD at q';exact q'
 | .sm m a b,X,S,E,g,e,h=>by
  sleep 4
  simp only[lw,decide_eq_true_eq]at h;obtain⟨⟨⟨⟨⟨ha,rfl⟩,hb⟩,hn⟩,h4⟩,h5⟩:=h;exact PE.imp (vE PySem.F.plainAttrs_str (yi m) (Du m) (DE m) (PE.bX (sE a g ha)) (iV (PE.bX (sE b g hb)) dn hn) (aT h4 _ _ _) (qv hb hn _ _) h5 (ag hn) rfl) λU H Q q=>⟨_,q,λx H1 z=>by
   obtain⟨z,rfl,q⟩:=z;exact⟨rfl,_,q,λy H2 q=>⟨z,y,rfl,rfl,g.hK▸q⟩⟩⟩
 | .up a,X,S,E,g,e,h=>by cases(show false=true from h)
 | .isiT a cs,X,S,E,g,e,h=>by
  sleep 5
  rename_i pos _ xn p1 _ _ a' _ es' kk pos2;simp only[lw,decide_eq_true_eq]at h;obtain⟨⟨⟨⟨⟨h1,rfl⟩,h2⟩,h3⟩,h4⟩,h5⟩:=h;obtain⟨hg,hdb⟩:=g.glob h1;obtain⟨hm,hn⟩:=g.tab.gbl _ (g.hT▸h2);have n1:notStar a'=true:=by
   cases a'<;>first|rfl|(cases a<;>cases(show false=true from h3))
  refine PE.imp (iK (wZ g cs) hg hm sV (iV (PE.bX (sE a g h3)) (iV (tD (ua g h4)) dn rfl) n1) hn hdb (ag n1) ?_) λU H Q q=>⟨_,q,λx H1 z=>⟨?_,λp hp=>⟨x,p,rfl,?_,z p hp⟩⟩⟩
  .rw[ag (show notStar (.Tuple es' kk pos2)=true from rfl)]
   rfl
  .exact eO (by rw[ce];omega)
  .rw[ak,List.map_map]
   rfl
 | .mk0 c,X,S,E,g,e,h=>by
  sleep 4
  simp only[lw,decide_eq_true_eq]at h;obtain⟨⟨h1,h2⟩,h3⟩:=h;obtain⟨hg,hdb⟩:=g.glob h1;refine PE.imp (vP (g.tab.inip c (g.hT▸h3)) hg (g.tab.gcl _ _ (g.hT▸h2)) hdb) λU H Q q=>?_
  have q':uZ (G.R.cad c) H Q:=q;unfold uZ at q';exact q'
 | .vals tp a,X,S,E,g,e,h=>by cases(show false=true from h)
 | .disp ks es,X,S,E,g,e,h=>by cases(show false=true from h)
 | .dzip a b,X,S,E,g,e,h=>by cases(show false=true from h)
termination_by structural x=>x
theorem sI:∀ (x:yz){X:Cx}{S:Sn}{E:St->XK},Gd X G S k E->∀ {t e:Expr},mI S x t e=true->PI X t e (λU H R=>wI G x U H R (E U))
 | .rng1 a,X,S,E,g,t,e,h=>by
  sleep 4
  simp only[lw,decide_eq_true_eq]at h;obtain⟨⟨⟨⟨h1,rfl⟩,h2⟩,h3⟩,n1⟩:=h;obtain⟨hg,hdb⟩:=g.glob h1;obtain⟨hm,hn⟩:=g.tab.gbl _ (g.hT▸h2);intro Y s U H R I q;refine rM hg hm (iV (PE.bX (sE a g h3)) dn n1) (ag n1) Y s U H R I ⟨_,q,λx H1 z=>?_⟩
  split at z
  .exact⟨_,rfl,z.1,z.2.1,z.2.2⟩
  .exact z.elim
 | .rng2 a b,X,S,E,g,t,e,h=>by cases(show false=true from h)
 | .rng3 a b c,X,S,E,g,t,e,h=>by cases(show false=true from h)
 | .enm a,X,S,E,g,t,e,h=>by
  sleep 4
  simp only[lw,decide_eq_true_eq]at h;obtain⟨⟨⟨⟨⟨h1,rfl⟩,h2⟩,h3⟩,n1⟩,h5⟩:=h;obtain⟨hg,hdb⟩:=g.glob h1;obtain⟨hm,hn⟩:=g.tab.gbl _ (g.hT▸h2)
  split at h5
  .intro Y s U H R I q;refine xq hg hm (iV (PE.bX (sE a g h3)) dn n1) (ag n1) Y s U H R I ⟨_,q,λx H1 z=>?_⟩
   split at z
   .unfold xo at z;exact⟨_,rfl,z.1,z.2⟩
   .exact z.elim
  .cases h5
 | .enf a,X,S,E,g,t,e,h=>by cases(show false=true from h)
 | .seq a,X,S,E,g,t,e,h=>by
  conv at h=>lhs;whnf
  intro Y s U H R I q;have q':wE G a U H (λx H1=>match x with| .ref p=>hW G.R.K p H1 R| .str z=>R (yE z) H1|_=>False) (E U):=q;rw[g.hK]at q';refine aB (sE a g h Y s U H _ I q') λv s1 ⟨x,H1,I1,r1,z⟩=>?_
  dsimp only at z
  split at z
  .unfold hW at z;rcases z with⟨⟨xs,hx⟩,z⟩|⟨⟨xs,hx⟩,z⟩|⟨kvs,hx,z⟩|⟨o,kvs,hx,z⟩
   .exact rq I1 r1 hx z
   .exact sR I1 r1 hx z
   .exact qM I1 r1 hx z
   .exact lq I1 r1 hx z
  .exact vi I1 r1 z
  .exact z.elim
 | .zip a b,X,S,E,g,t,e,h=>by cases(show false=true from h)
 | .zip3 a b c,X,S,E,g,t,e,h=>by cases(show false=true from h)
termination_by structural x=>x
theorem sO:∀ (x:DW){X:Cx}{S:Sn}{E:St->XK},Gd X G S k E->∀ {e:Option Expr},mO S x e=true->PO X e (λU H Q=>wO G x U H Q (E U))
 | .no,X,S,E,g,none,h=>wt
 | .no,X,S,E,g,some _,h=>by cases(show false=true from h)
 | .yes x,X,S,E,g,none,h=>by cases(show false=true from h)
 | .yes x,X,S,E,g,some e,h=>by
  conv at h=>lhs;whnf
  intro Y s U H Q I q;refine pk (PE.bX (sE x g h)) Y s U H Q I ⟨_,q,λy H1 z=>?_⟩
  split at z
  .exact⟨_,rfl,z⟩
  .exact z.elim
termination_by structural x=>x
theorem sT:∀ (x:Tx){X:Cx}{S:Sn}{E:St->XK},Gd X G S k E->∀ {e:Expr},mT S x e=true->PT X e (λU H Q=>wT G x U H Q (E U))
 | .not a,X,S,E,g,e,h=>by
  sleep 2
  exact Ar (sT a g h)
 | .and a b,X,S,E,g,e,h=>by
  sleep 3
  simp only[lw]at h;exact PT.imp (AQ (PT.bX (sT a g h.1)) (uG (sT b g h.2))).pt λU H Q q=>⟨_,q,λk H1 z=>by rwa [dm]at z⟩
 | .or a b,X,S,E,g,e,h=>by
  sleep 3
  simp only[lw]at h;exact PT.imp (CL (PT.bX (sT a g h.1)) (tm (sT b g h.2))).pt λU H Q q=>⟨_,q,λk H1 z=>by rwa [dm]at z⟩
 | .cmp op a b,X,S,E,g,e,h=>by
  sleep 3
  simp only[lw,decide_eq_true_eq]at h;obtain⟨⟨⟨rfl,ha⟩,hb⟩,hn⟩:=h;refine PT.imp (yt (bT.bX (g.cmp op)) (PE.bX (sE a g ha)) (PE.bX (sE b g hb)) (c9 hn _)) λU H Q q=>⟨_,q,λx H1 q1=>⟨_,q1,λy H2 q2=>⟨_,q2,λz H3 q3=>?_⟩⟩⟩
  split at q3
  .exact⟨_,rfl,q3⟩
  .exact q3.elim
 | .cmp2 o1 o2 a b c,X,S,E,g,e,h=>by
  sleep 3
  simp only[lw,decide_eq_true_eq]at h;obtain⟨⟨⟨⟨⟨rfl,rfl⟩,ha⟩,hb⟩,hc⟩,hn⟩:=h;refine PT.imp (um (bT.bX (g.cmp o1)) (bT.bX (g.cmp o2)) (PE.bX (sE a g ha)) (PE.bX (sE b g hb)) (PE.bX (sE c g hc)) (iT hn)) λU H Q q=>⟨_,q,λx H1 q1=>⟨_,q1,λy H2 q2=>⟨_,q2,λz H3 q3=>?_⟩⟩⟩
  split at q3
  .refine⟨_,rfl,?_⟩;rw[dm]at q3
   split at q3
   .rename_i hk;rw[if_pos hk];refine⟨_,q3,λw H4 q4=>⟨_,q4,λz H5 q5=>?_⟩⟩
    split at q5
    .exact⟨_,rfl,q5⟩
    .exact q5.elim
   .rename_i hk;rw[if_neg hk];exact⟨_,rfl,q3⟩
  .exact q3.elim
 | .val x,X,S,E,g,e,h=>by
  have h:(mE S x e&&plainT e)=true:=h;simp only[lw]at h;refine PT.imp (sJ (PE.bX (sE x g h.1)) (plainT_ok h.2 _)) λU H Q q=>⟨_,q,λy H1 z=>?_⟩
  exact g.hK▸Av z
termination_by structural x=>x
theorem FK:∀ (x:eu){X:Cx}{S:Sn}{E:St->XK},Gd X G S k E->∀ {ks:List Str}{keys:List (Option Expr)}{e:List Expr}{pos:Pos},rB ks keys=true->iU S x e=true->x.len=ks.length->PQ X pos keys e (λU H R=>∃ Q,wEs G x U H Q (E U)/\∀ xs H1,xs.length=x.len->Q xs H1->R (Fg ks xs) H1)
 | .nil,X,S,E,g,ks,keys,[],pos,h1,h,hl=>by
  obtain rfl:ks=[]:=List.eq_nil_of_length_eq_zero hl.symm;rw[vQ h1];exact λY s U H R I ⟨Q,q,i⟩=>zU Y s U H R I (i [] H rfl q)
 | .nil,X,S,E,g,_,_,_::_,pos,h1,h,hl=>by cases(show false=true from h)
 | .cons x xs,X,S,E,g,_,_,[],pos,h1,h,hl=>by cases(show false=true from h)
 | .cons x xs,X,S,E,g,[],keys,e::es,pos,h1,h,hl=>by cases hl
 | .cons x xs,X,S,E,g,c::ks,keys,e::es,pos,h1,h,hl=>by
  have h:(mE S x e&&notStar e&&iU S xs es)=true:=h;simp only[lw]at h;obtain⟨j,p,r,rfl,h2⟩:=rJ h1;intro Y s U H R I ⟨Q,q,i⟩;refine wA uq (PE.bX (sE x g h.1.1)) (FK xs g h2 h.2 (Nat.succ.inj hl)) Y s U H R I ?_;exact⟨_,q,λy H2 z=>⟨_,z,λys H3 hy w=>i (y::ys) H3 (congrArg Nat.succ hy) w⟩⟩
termination_by structural x=>x
theorem rX:∀ (x:eu){X:Cx}{S:Sn}{E:St->XK},Gd X G S k E->∀ {e:List Expr},iU S x e=true->PA X e (λU H Q=>wEs G x U H Q (E U))
 | .nil,X,S,E,g,[],h=>dn
 | .nil,X,S,E,g,_::_,h=>by cases(show false=true from h)
 | .cons x xs,X,S,E,g,[],h=>by cases(show false=true from h)
 | .cons x xs,X,S,E,g,e::es,h=>by
  have h:(mE S x e&&notStar e&&iU S xs es)=true:=h;simp only[lw]at h;exact iV (sE x g h.1.1) (rX xs g h.2) h.1.2
termination_by structural x=>x
end
end
end L3
namespace L2
open PySem PySem.Spec PyProof.Rows
variable {scope:Scope}{cl:List (Str×Addr)}{fr:List Str}{sel:List Nat}{s:Shared}
section
variable {X:Cx}
def dX {elt iter tgt:Expr}{ifs:List Expr}{xs:List Str}{y:Str}{py pos spos:Pos}{wi:TI}{tg:TG}{tc:TT}{te:TE}{ni:Nat}(hc:X.calm=true)(S:aU X scope cl xs fr sel)(hi:PI X tgt iter wi)
  (hg:∀ (s:Shared) (H:Hp) (fp:List Addr),PG (dQ X scope cl (xs++fr) s H fp) tgt tg) (ht:∀ (s:Shared) (H:Hp) (fp:List Addr),DZ (dQ X scope cl (xs++fr) s H fp) ifs tc)
  (he:∀ (s:Shared) (H:Hp) (fp:List Addr),PE (dQ X scope cl (xs++fr) s H fp) elt te) (hs:∀ x,foldedSetIterable iter X.env x=pure x) (hN:X.N.Nodup) (hni:X.N[ni]? =some y) (hy:X.env.scope.names.lookup y=some .local)
  (hsw:swapsWith (.ListComp elt [⟨tgt,iter,ifs,0⟩] scope pos) (some (.Name y py)) spos.line X.env=pure true):PS X (.Assign [.Name y py] (.ListComp elt [⟨tgt,iter,ifs,0⟩] scope pos) spos) (λD U H=>Dx wi tg tc te xs sel U H λv H1=>D.nx (U.set ni (some v)) H1):=by
 intro Y s U H DD I h;rw[exec_Assign_Name_used _ _ _ _ hsw];refine ad (wpAny_standAt (ad ?_));show wpAny _ _ (do let _ <-comprehension (.ListComp elt [⟨tgt,iter,ifs,0⟩] scope pos) scope X.env _ (newList []) false (eval iter X.env) (some (assign (.Name y py) X.env))) _ _ s;refine ad (wpAny_mono (wpAny_comprehension_free (use:=some (assign (.Name y py) X.env)) (Q:=λ_ s'=>SP X Y DD .next s') rfl hs S.clos S.kind S.names ?_) (λ_ s' hq=>am (am hq)) λ_ _ e=>e);refine aB (hi Y s U H _ I h) λv s1 h1=>aB h1 λitv s2 h2=>?_
 obtain⟨it,fp,tn,J,H2,e,I2,T,om,f2,h2⟩:=h2;subst e;refine wpAny_newObj_type ?_;have hD:H2 s2.heap.objs.size=none:=I2.hok.fresh (pi _);have I3:Inv X Y U (upd H2 s2.heap.objs.size (.lst [])) { s2 with heap:=s2.heap.push { cls:=.type "list",dict:=none,data:=.seq ([]:List Value).toArray } }:=
  I2.laid (t':=s2.toks) (λb u e=>sw _ e) (pi _) ⟨Nat.zero_le _,[],0,.nil,tz _ rfl⟩
 have fo2:∀ b ∈ fp,b<s2.heap.objs.size:=λb hb=>by
  obtain⟨o,ho,_⟩:=T.obj _ _ om b hb;exact sK ho
 have f3:∀ b ∈ fp,gO X Y (upd H2 s2.heap.objs.size (.lst [])) b:=λb hb=>⟨by rw[ah (pc (fo2 b hb))];exact(f2 b hb).1,(f2 b hb).2⟩
 have st3:tn 0 (s2.heap.push { cls:=.type "list",dict:=none,data:=.seq ([]:List Value).toArray }):=T.keep _ _ _ om λb hb o e=>sw _ e
 have fo3:∀ b ∈ fp,b<(s2.heap.push { cls:=.type "list",dict:=none,data:=.seq ([]:List Value).toArray }).objs.size:=λb hb=>by
  rw[Heap.size_push];exact Nat.lt_succ_of_lt (fo2 b hb)
 obtain⟨W,⟨m0,w0⟩,turn⟩:=h2 _ hD;generalize s2.heap.objs.size=D at*;generalize hs3:({ s2 with heap:=s2.heap.push { cls:=.type "list",dict:=none,data:=.seq ([]:List Value).toArray } }:Shared)=s3 at*;have st3':tn 0 s3.heap:=by rw[<-hs3];exact st3
 have fo3':∀ b ∈ fp,b<s3.heap.objs.size:=by rw[<-hs3];exact fo3
 refine wpAny_newFunctionEnv S.nocell (by intro y hy;simp at hy) (λh' hns hsb=>?_) S.kind;have keep:∀ b o,s3.heap.get? b=some o->h'.get? b=some o:=λb o e=>(hsb.2 b (pc (sK e))).trans (sw _ e)
 have I4:=md (tk:=s3.toks+([]:List (Str×Value)).length) S I3 f3 fo3' hns keep;have st4:tn 0 h':=T.keep _ _ _ st3' λb hb o e=>keep b o e
 have stat:∀ {H':Hp},(∀ b ∈ fp,H' b=none)->∀ b ∈ fp,gO (dQ X scope cl (xs++fr) s3 (upd H2 D (.lst [])) fp) (X.pn++Y) H' b:=λ{H'} hn b hb=>
  ⟨hn b hb,pc (fo3' b hb),λz=>(lv.mp (I3.f7 b z)).elim (f3 b hb).2.1 (f3 b hb).2.2.1,.inl hb,λy c hy=>(f3 b hb).2.2.2.2.1 y c (S.sub y c hy),λp hp=>(f3 b hb).2.2.2.2.2 p (by simpa[dQ] using hp)⟩
 have loop:codeAny (model X.prog X.w) X.A (.compLoop (.ListComp elt [⟨tgt,iter,ifs,0⟩] scope pos) 0 (.ref it) (.ref D) (compEnvC scope cl s3.heap.objs.size X.env))
   (compPost (model X.prog X.w) X.A X.xe (some (assign (.Name y py) X.env)) (λ_ s'=>SP X Y DD .next s') (.ref D) s3.heap.objs.size) { s3 with heap:=h',toks:=s3.toks+([]:List (Str×Value)).length }:=by
  refine codeAny_loop rfl (λn s'=>∃ i σ' H',Inv (dQ X scope cl (xs++fr) s3 (upd H2 D (.lst [])) fp) (X.pn++Y) σ' H' s'/\tn i s'.heap/\(∀ b ∈ fp,H' b=none)/\W i n σ' H') (λn s5 hI=>?_) m0 ⟨0,_,_,I4,st4,λb hb=>(f3 b hb).1,w0⟩;show wpAny _ _ ((compTurn (.ListComp elt [⟨tgt,iter,ifs,0⟩] scope pos) 0 (.ref it) (.ref D) (compEnvC scope cl s3.heap.objs.size X.env)).onRaise (λx=>do noteFrame x (compEnvC scope cl s3.heap.objs.size X.env);theTreesLotGoes x)) _ _ s5;refine wpAny_noted ?_;refine pK (ht s3 (upd H2 D (.lst [])) fp).1 ?_;obtain⟨i,σ5,H5,I5,st5,fr5,w5⟩:=hI;rcases turn i n σ5 H5 w5 with⟨stop,q⟩|⟨go,Nn,hNn,step⟩
  .refine aB (T.done (dQ X scope cl (xs++fr) s3 (upd H2 D (.lst [])) fp) rfl rfl rfl hc i _ s5 σ5 H5 _ I5 (stat fr5) st5 stop) λr s6 ⟨hr,I6⟩=>?_
   subst hr;obtain⟨m,hn,_⟩:=I6.loc;have J:Inv X Y U H5 s6:=I3.uD (ch:=fp) I6.os I6.base I6.hok I6.bare λb hb=>⟨(f3 b hb).2.2.2.1,(f3 b hb).2.1,(f3 b hb).2.2.2.2.1,(f3 b hb).2.2.2.2.2⟩
   have fC:H5 s3.heap.objs.size=none:=I6.free;have nL:s3.heap.objs.size≠X.env.locals:=Ne.symm (pc I3.lt);have nC:∀ z c,X.env.cells.lookup z=some c->c≠s3.heap.objs.size:=λz c e=>by
    obtain⟨v,o,ho,_⟩:=I3.cell z c e;exact pc (sK ho)
   show wpAny _ _ (assign (.Name y py) X.env (.ref D)) _ _ s6;refine wpAny_assign_Name (jI J hN hni (.inl hy) (v:=.ref D) rfl (λs7 J7 hsb=>?_) (.inr hy));obtain⟨a,sb,ha⟩:=hsb;have hne:s3.heap.objs.size≠a:=by
    rcases ha with ha|ha
    .rw[ha];exact nL
    .exact Ne.symm (nC _ _ ha)
   refine⟨m,hn.sameBut sb hne,λh'' hs''=>⟨_,H5,?_,q⟩⟩;exact J7.turned (h':=h'') (t':=s7.toks) (it:=s3.heap.objs.size) (λb o hb e=>(hs''.2 b hb).trans e) fC nL (.inr I3.sz) nC λp hp=>pc (sK (I3.pin p hp).1)
  .have fin:∀ {σ8:St}{H10:Hp}{s10:Shared},Inv (dQ X scope cl (xs++fr) s3 (upd H2 D (.lst [])) fp) (X.pn++Y) σ8 H10 s10/\tn (i+1) s10.heap/\(∀ b ∈ fp,H10 b=none)->Nn σ8 H10->∃ m',m'<n/\∃ i σ' H',Inv (dQ X scope cl (xs++fr) s3 (upd H2 D (.lst [])) fp) (X.pn++Y) σ' H' s10/\tn i s10.heap/\(∀ b ∈ fp,H' b=none)/\W i m' σ' H':=λ⟨I,t,f⟩ nn=>by
    obtain⟨m',hm,w10⟩:=hNn _ _ nn;exact⟨m',hm,i+1,_,_,I,t,f,w10⟩
   refine aB (T.item (dQ X scope cl (xs++fr) s3 (upd H2 D (.lst [])) fp) rfl rfl rfl hc i _ s5 σ5 H5 _ I5 (stat fr5) st5 go) λr s6 ⟨u,hr,h6⟩=>?_
   subst hr;refine aB h6 λ_ s7 ⟨xv,H7,I7,r7,y7,st7,fr7⟩=>?_
   have I7':=I7.pinned (stat fr7) (T.obj _ _ st7);refine yH (hg s3 _ fp _ s7 σ5 H7 xv u _ I7' r7 (step xv _ y7)) λ_ s8 ⟨σ8,H8,I8,q8⟩=>?_
   refine yH ((ht s3 _ fp).2 _ s8 σ8 H8 _ I8 q8) λok s9 ⟨H9,I9,q9⟩=>?_
   have back:∀ {H10:Hp}{s10:Shared},Inv (dQ X scope cl (xs++fr) s3 (upd H2 D (.lst [])) fp) _ σ8 H10 s10->Inv (dQ X scope cl (xs++fr) s3 (upd H2 D (.lst [])) fp) (X.pn++Y) σ8 H10 s10/\tn (i+1) s10.heap/\(∀ b ∈ fp,H10 b=none):=λ{H10 s10} I10=>⟨I10.dg,T.keep _ _ _ st7 λb hb o e=>(I10.pin (b,o) (ii _ (ii _ (bg hb e)))).1,λb hb=>by
    obtain⟨o,e,d⟩:=T.obj _ _ st7 b hb;exact(I10.pin (b,o) (ii _ (ii _ (bg hb e)))).2.1⟩
   refine⟨λek=>?_,λek=>am ⟨rfl,fin (back I9) (q9.2 ek)⟩⟩;refine yH (he s3 _ fp _ s9 _ _ _ I9 (q9.1 ek)) λuv s10 ⟨vv,H10,I10,r10,zs,hz,hzl,n10⟩=>?_
   refine yH (fW (X:=dQ X scope cl (xs++fr) s3 (upd H2 D (.lst [])) fp) _ s10 _ H10 (.ref D) [vv] (.ref D) [uv] (λ_ H'=>H'=upd H10 D (.lst (zs++[vv]))) I10 rfl (.cons r10 .nil) ⟨D,zs,vv,rfl,rfl,hz,hzl,rfl⟩) λ_ s11 ⟨_,H11,I11,_,e11⟩=>?_
   subst e11;exact am ⟨rfl,fin (back I11) n10⟩
 exact codeAny_compStart_list loop (T.self _ 0 _ _ _ st4 loop)
def rK {elt iter:Expr}{x y:Str}{px py pos spos:Pos}{wi:TI}{te:TE}{ni:Nat}(hc:X.calm=true)(S:aU X scope cl [x] fr sel)(hi:PI X (.Name x px) iter wi)
  (he:∀ (s:Shared) (H:Hp) (fp:List Addr),PE (dQ X scope cl (x::fr) s H fp) elt te) (hs:∀ x,foldedSetIterable iter X.env x=pure x) (hN:X.N.Nodup) (hni:X.N[ni]? =some y) (hy:X.env.scope.names.lookup y=some .local)
  (hsw:swapsWith (.ListComp elt [⟨.Name x px,iter,[],0⟩] scope pos) (some (.Name y py)) spos.line X.env=pure true):PS X (.Assign [.Name y py] (.ListComp elt [⟨.Name x px,iter,[],0⟩] scope pos) spos) (λD U H=>Fd wi te sel U H λv H1=>D.nx (U.set ni (some v)) H1):=λY s U H D I h=>
 dX hc S hi.up (λs H fp=>kr S) (λ_ _ _=>gS) he hs hN hni hy hsw Y s U H D I ⟨_,h,λ_ _ q=>q.g⟩
section
variable {prog:Program}{w:World}{A:Around}{E:GC}
def jE {it t:Addr}{items:Array Value}(hne:t≠it):∀ (n i:Nat) (s:Shared) (Q:List Value->Shared->Prop),s.heap.IsListIter it t i->s.heap.IsList t items->i+n<=items.size->
  (∀ h',h'.IsListIter it t (i+n)->Heap.SameBut it s.heap h'->Q ((items.toList.drop i).take n) { s with heap:=h' })->wpAny (model prog w) A (draw (.ref it) n) Q E s
 |0,i,s,Q,hit,_,_,hQ=>by
  show wpAny _ _ (pure []) Q E s;exact am (by simpa using hQ s.heap hit (Heap.SameBut.refl ..))
 |n+1,i,s,Q,hit,ht,hle,hQ=>by
  have hlt:i<items.size:=by omega
  show wpAny _ _ (pyNext (.ref it) >>= _) Q E s;refine ad (wpAny_pyNext_list_item hit ht (x:=items[i]) (by simp[hlt]) λh₁ hit₁ hs₁=>?_);refine ad (bd (jE hne n (i+1) _ _ hit₁ (ht.extBut hs₁.extBut hne) nofun λh₂ hit₂ hs₂=>am ?_));have hd:items.toList.drop i=items[i]::items.toList.drop (i+1):=by simp[List.drop_eq_getElem_cons,hlt]
  have:=hQ h₂ (by rw[show i+(n+1)=i+1+n by omega];exact hit₂) (hs₁.trans hs₂);rw[hd,List.take_succ_cons]at this;exact this
def fX {t:Addr}{items:Array Value}{Q:List Value->Shared->Prop}(hh:A.handled=none)(ht:s.heap.IsList t items)(hty:s.TypeIs (.ref t) "list")
  (hQ:∀ h',Heap.ExtBut s.heap.objs.size s.heap h'->Q items.toList { s with heap:=h' }):wpAny (model prog w) A (unpackItems (.ref t) items.size none) Q E s:=by
 have hlt:t≠s.heap.objs.size:=by obtain⟨o,ho,_⟩:=id ht;exact pc (sK ho)
 unfold unpackItems;refine ad ?_
 .unfold notIterableAtAll;refine ad (wpAny_specialOf hty PySem.F.slot_list_iter.lookup ?_);refine am ?_;simp only[Bool.false_eq_true,if_false];refine ad (bd (wpAny_pyIter_list ht ?_));refine ad (bd (jE hlt items.size 0 _ _ ⟨_,tz _ rfl,rfl,rfl⟩ (ht.push _) nofun λh₁ hit₁ hs₁=>?_));have hall:List.take items.size (List.drop 0 items.toList)=items.toList:=by
   rw[drop_zero];exact take_of_length_le (by simp)
  rw[hall];rw[if_neg (by simp)];have ht₁:h₁.IsList t items:=(ht.push _).extBut hs₁.extBut hlt;refine ad (bd (wpAny_pyNext_list_end hh hit₁ ht₁ (by simp) λh₂ he₂=>?_));simp only[Option.isSome_none,Bool.false_eq_true,if_false];refine am (hQ h₂ λb o hb e=>he₂ b o hb (hs₁.extBut b o hb (sw _ e)))
end
def AI {es:List Expr}{k:Nat}{pos:Pos}{t:yk}{n:Nat}(hc:X.calm=true)(h:AK X es t)
  (hn:(assignEach es X.env).length=n) (hst:(assignEach es X.env).findIdx? (·.1)=none){Y:GD}{U:St}{H:Hp}{a:Addr}{u:Value}{xs:List V}{Q:St->Hp->Prop}(I:Inv X Y U H s) (r:RelV (.ref a) u)
  (hq:aF X.K H a xs) (hl:xs.length=n) (hw:t xs U H Q):wpAny (model X.prog X.w) X.A (assign (.Tuple es k pos) X.env u) (λ_ s'=>∃ σ' H',Inv X Y σ' H' s'/\Q σ' H') X.xe s:=by
 cases r;obtain⟨its,rv,p,hz⟩:=I.list hq;rw[assign_Tuple];refine ad (wpAny_standAt ?_);unfold unpack;have e1:(assignEach es X.env).length=its.toArray.size:=by
  rw[hn,<-hl];simp[rv.length]
 rw[e1,hst];refine ad (bd (fX (I.ok.hd hc) p.isList p.isList.typeIs λh' hx=>?_));have I1:Inv X Y U H { s with heap:=h' }:=I.kept (t':=s.toks) λb o e=>hx b o (pc (sK e)) e
 exact h Y _ U H xs _ Q I1 (by simpa using rv) hw
end
end L2
namespace L3
open PySem PySem.Spec L2
set_option maxHeartbeats 2000000
abbrev vG (S:Sn):List Nat->List Expr->Bool
 | [],[]=>true
 |i::is,.Name x _::r=>S.loc i x&&vG S is r
 |_,_=>false
abbrev Fp (S:Sn):DQ->Expr->Bool
 | .nm i,e=>match e with| .Name x _=>S.loc i x|_=>false
 | .tp is,e=>match e with| .Tuple ts _ _=>vG S is ts|_=>false
 | .nt i is,e=>match e with| .Tuple y1 _ _=>(match y1 with| [y2,y3]=>(match y2 with| .Name x _=>(match y3 with| .Tuple ts _ _=>S.loc i x&&vG S is ts|_=>false)|_=>false)|_=>false)|_=>false
mutual
noncomputable def mS (S:Sn):Sx->Stmt->Bool
 | .asg i e,s=>match s with| .Assign y1 e' _=>(match y1 with| [y2]=>(match y2 with| .Name x _=>S.loc i x&&mE S e e'|_=>false)|_=>false)|_=>false
 | .asgT is e,_=>false
 | .par is es,_=>false
 | .sub o i v,s=>match s with| .Assign y1 v' _=>(match y1 with| [y2]=>(match y2 with| .Subscript o' i' _=>mE S o o'&&mE S i i'&&mE S v v'&&du i'|_=>false)|_=>false)|_=>false
 | .fld o f v,s=>match s with| .Assign y1 v' _=>(match y1 with| [y2]=>(match y2 with| .Attribute o' f' _=>mE S o o'&&decide (f=f')&&mE S v v'|_=>false)|_=>false)|_=>false
 | .aug i op e,s=>match s with| .AugAssign y1 op' e' _=>(match y1 with| .Name x _=>S.loc i x&&decide (op=op')&&mE S e e'|_=>false)|_=>false
 | .augS o i op e,s=>match s with| .AugAssign y1 op' e' _=>(match y1 with| .Subscript o' i' _=>mE S o o'&&mE S i i'&&decide (op=op')&&mE S e e'&&du i'|_=>false)|_=>false
 | .ret e,s=>match s with| .Return y1 _=>(match y1 with|some e'=>mE S e e'|_=>false)|_=>false
 | .retN,_=>false
 | .pass,_=>false
 | .brk,_=>false
 | .cont,_=>false
 | .expr e,s=>match s with| .Expr e' _=>mE S e e'&&og e'|_=>false
 | .ife c a b,s=>match s with| .If c' a' b' _=>mT S c c'&&mB S a a'&&mB S b b'|_=>false
 | .whl c b,_=>false
 | .for t it b,s=>match s with| .For t' it' b' y1 _=>(match y1 with| []=>Fp S t t'&&mI S it t' it'&&mB S b b'&&bW it'|_=>false)|_=>false
 | .rais e,s=>match s with| .Raise y1 y2 _=>(match y1 with|some e'=>(match y2 with|none=>mE S e e'|_=>false)|_=>false)|_=>false
 | .tryx b hs,s=>match s with| .Try b' y1 y2 y3 _=>(match y1 with|h0::hs'=>(match y2 with| []=>(match y3 with| []=>mB S b b'&&mH S hs (h0::hs')|_=>false)|_=>false)|_=>false)|_=>false
noncomputable def mB (S:Sn):iO->List Stmt->Bool
 | .nil,l=>l.isEmpty
 | .cons s r,l=>match l with|s'::r'=>mS S s s'&&mB S r r'| []=>false
noncomputable def mH (S:Sn):vW->List ExceptHandler->Bool
 | .nil,l=>l.isEmpty
 | .cons c i b hs,l=>match l with| .ExceptHandler (some (.Name x _)) (some n) (b0::bs) _::r=>S.mX x&&decide (S.T.gcl.lookup x=some c)&&decide (S.N[i]? =some n)&&decide (S.sc.names.lookup n=some .local)&&mB S b (b0::bs)&&mH S hs r|_=>false
end
structure Gs (X:Cx) (G:Gx) (S:Sn) (k:Nat) (E:St->XK):Prop extends Gd X G S k E where
 xok:G.cm=true->B3 X E
 own:PassesOwn (model X.prog X.w) X.A X.env X.xe
 stk:X.stack=X.env::X.outer
 fr:X.env.frame=some X.env.locals
 fn:∀ x,X.fn x=true
variable {p:Pos}{elt:Expr}{gs:List Comprehension}{scope:Scope}
section
variable {X:Cx}{G:Gx}{S:Sn}{k:Nat}{E:St->XK}
def Gs.et (g:Gs X G S k E){Y:GD}{xe:GC}{E':St->XK}(hx:B3 (X.et Y xe) E')(ho:PassesOwn (model X.prog X.w) X.A X.env xe):Gs (X.et Y xe) G S k E' where
 hK:=g.hK
 hT:=g.hT
 sc:=g.sc
 N:=g.N
 nd:=g.nd
 pass:=jD hx
 cm:=g.cm
 room:=g.room
 un:=g.un
 tab:=g.tab
 fns:=g.fns
 xok:=λ_=>hx
 own:=ho
 stk:=g.stk
 fr:=g.fr
 fn:=g.fn
def Gs.aW (g:Gs X G S k E)(e:Value):Gs (X.aW e) { G with cm:=false } S k (λ_ _ _=>False) where
 hK:=g.hK
 hT:=g.hT
 sc:=g.sc
 N:=g.N
 nd:=g.nd
 pass:=λY U H s e s' I h=>by
  obtain⟨e,H',C,dx,fs,T,_,_,_,_,_,_,_,_,_,q⟩:=h;exact q.elim
 cm:=λz=>by cases z
 room:=λz=>by cases z
 un:=g.un
 tab:=g.tab
 fns:=g.fns
 xok:=λz=>by cases z
 own:=PassesOwn.never
 stk:=g.stk
 fr:=g.fr
 fn:=g.fn
def ig (env:Env):∀ {is:List Nat}{ts:List Expr},vG S is ts=true->(assignEach ts env).length=is.length/\(assignEach ts env).findIdx? (·.1)=none
 | [],[],_=>⟨rfl,rfl⟩
 | [],_::_,h=>by simp[vG]at h
 |_::_,[],h=>by simp[vG]at h
 |i::is,t::ts,h=>by
  cases t<;>simp[vG]at h
  rename_i x p;obtain⟨h1,h2⟩:=ig env h.2;have e:assignEach (.Name x p::ts) env=(false,assign (.Name x p) env)::assignEach ts env:=rfl;rw[e];refine⟨by simp[h1],?_⟩;rw[List.findIdx?_cons];simp[h2]
def kH (g:Gs X G S k E):∀ {is:List Nat}{ts:List Expr},vG S is ts=true->AK X ts (gl is)
 | [],[],_=>λY s U H vs us Q I r h=>kf Y s U H vs us Q I r ⟨length_eq_zero_iff.mp h.1,by
   have:=h.2;have e:vs=[]:=length_eq_zero_iff.mp h.1;subst e;exact this⟩
 | [],_::_,h=>by simp[vG]at h
 |_::_,[],h=>by simp[vG]at h
 |i::is,t::ts,h=>by
  cases t<;>simp[vG]at h
  rename_i x p;obtain⟨hi,hx⟩:=g.loc h.1;have h1:PG X (.Name x p) (eP i):=fK (by rw[g.N];exact g.nd) hi hx (.inl (g.fn x));have h2:=kH g h.2;intro Y s U H vs us Q I r q;refine eC h1 h2 rfl Y s U H vs us Q I r ?_;obtain⟨hl,q⟩:=q;cases vs with
  |nil=>simp at hl
  |cons v vs=>exact⟨v,vs,rfl,by simpa using hl,q⟩
def CC (g:Gs X G S k E)(hc:G.cm=true){t:DQ}{e:Expr}(h:Fp S t e=true):PG X e (λv U H Q=>wG U t G.R.K v H λσ1=>Q σ1 H):=by
 cases t with
 |nm i=>
  conv at h=>lhs;whnf
  split at h
  .obtain⟨hi,hx⟩:=g.loc h;exact fK (by rw[g.N];exact g.nd) hi hx (.inl (g.fn _))
  .cases h
 |tp is=>
  conv at h=>lhs;whnf
  split at h
  .intro Y s U H v u Q I r q;obtain⟨a,xs,rfl,hq,hl,q⟩:=q;obtain⟨e1,e2⟩:=ig X.env h;rw[g.hK]at hq;rcases hq with hq|hq
   .exact kh (g.cm hc) (kH g h) e1 e2 Y s U H _ u Q I r ⟨a,xs,rfl,hq,hl,hl,q⟩
   .exact AI (g.cm hc) (kH g h) e1 e2 I r hq hl ⟨hl,q⟩
  .cases h
 |nt i is=>
  conv at h=>lhs;whnf
  split at h
  .split at h
   .split at h
    .split at h
     .intro Y s U H v u Q I r q;simp only[lw]at h;obtain⟨a,y,b,ys,rfl,hq,hb,hl,q⟩:=q;obtain⟨e1,e2⟩:=ig X.env h.2;obtain⟨hi,hx⟩:=g.loc h.1;rw[g.hK]at hq hb;refine kh (n:=2) (g.cm hc) (eC (fK (by rw[g.N];exact g.nd) hi hx (.inl (g.fn _))) (eC (kh (g.cm hc) (kH g h.2) e1 e2) kf rfl) rfl) rfl rfl Y s U H _ u Q I r ⟨a,_,rfl,hq,rfl,y,_,rfl,.ref b,_,rfl,b,ys,rfl,hb,hl,hl,rfl,q⟩
     .cases h
    .cases h
   .cases h
  .cases h
def rF {e o i:Expr}(n:Nat)(env:Env):swapsWithSole [.Subscript o i p] e n env=pure false:=by
 cases e<;>rfl
def rO {e o:Expr}{f:Str}(n:Nat)(env:Env):swapsWith e (some (.Attribute o f p)) n env=pure false:=by
 cases e<;>rfl
def ng {e o i:Expr}(env:Env):swappedStores [.Subscript o i p] e env=pure none:=by
 cases e<;>rfl
def nJ {o i:Expr}{pos:Pos}{env:Env}(h:du i=true):∀ v,assign (.Subscript o i pos) env v=(do
   let ov <-holding [v] (eval o env)
   let iv <-holding [v,ov] (eval i env)
   standAt pos
   holding [v,ov,iv] (setItem ov iv v)
   release [v,ov,iv] []):=by
 intro v;cases i<;>first|rfl|cases h
def wF {i:Expr}(h:du i=true):∀ ov iv new,augStore i ov iv new=(do holding [new,ov,iv] (setItem ov iv new);release [new,ov,iv] [];pure .next):=by
 intro ov iv new;cases i<;>first|rfl|cases h
def zh (op:Operator):CW X op (DU op):=by
 intro Y s U H x y v u Q I r1 r2 h;unfold DU at h
 split at h
 .exact AL Y s U H _ _ v u Q I r1 r2 ⟨_,_,rfl,rfl,h⟩
 .exact Au Y s U H _ _ v u Q I r1 r2 ⟨_,_,rfl,rfl,h⟩
 .exact h.elim
def zr (g:Gd X G S k E):Bu X (vO G.R.K):=by
 intro Y s U H x y v u Q I r1 r2 h;unfold vO at h;rw[g.hK]at h
 split at h
 .obtain⟨xs,w,h1,h2,h3,q⟩:=h;exact uQ Y s U H _ _ v u Q I r1 r2 ⟨_,xs,_,w,rfl,rfl,h1,h2,h3,q⟩
 .exact h.elim
def ot {py:Pos}{y:Str}{n:Nat}{env:Env}(hk:env.scope.kind=.function):∃ b,swapsWith (.ListComp elt gs scope p) (some (.Name y py)) n env=pure b/\(b=true->env.scope.names.lookup y=some .local):=by
 refine⟨_,rfl,λh=>?_⟩;simp only[lw]at h;have:=h.1.1.2;exact beq_iff_eq.mp this
end
set_option maxHeartbeats 2000000
variable {S:Sn}
section
variable {k:Nat}
def Ck {x:Ex}(h:mE S x (.ListComp elt gs scope p)=true):(∃ e' sel it y py iter,x=.lc e' sel it/\gs=[⟨.Name y py,iter,[],0⟩]/\
  cU S scope [y] sel=true/\mI S it (.Name y py) iter=true/\mE { S with sc:=bU S.sc scope,N:=y::sel.filterMap λi=>S.N[i]? } e' elt=true/\bW iter=true)\/
  (∃ e' c sel it y py iter c',x=.lci e' c sel it/\gs=[⟨.Name y py,iter,[c'],0⟩]/\
  cU S scope [y] sel=true/\mI S it (.Name y py) iter=true/\mE { S with sc:=bU S.sc scope,N:=y::sel.filterMap λi=>S.N[i]? } e' elt=true/\mT { S with sc:=bU S.sc scope,N:=y::sel.filterMap λi=>S.N[i]? } c c'=true/\bW iter=true)\/
  ∃ e' n sel it ts kt pt iter,x=.lct e' n sel it/\gs=[⟨.Tuple ts kt pt,iter,[],0⟩]/\
  cU S scope (x9 ts) sel=true/\rS { S with sc:=bU S.sc scope,N:=x9 ts++sel.filterMap λi=>S.N[i]? } (List.range n) ts=true/\(x9 ts).length=n/\mI S it (.Tuple ts kt pt) iter=true/\mE { S with sc:=bU S.sc scope,N:=x9 ts++sel.filterMap λi=>S.N[i]? } e' elt=true/\bW iter=true:=by
 cases x<;>(try (cases(show false=true from h);done))
 all_goals (conv at h=>lhs;whnf)
 all_goals (iterate 5 (split at h<;>first|(cases h;done)|skip))
 all_goals (simp only[lw,decide_eq_true_eq]at h)
 all_goals first
  |exact .inl ⟨_,_,_,_,_,_,rfl,rfl,h.1.1.1,h.1.1.2,h.1.2,h.2⟩
  |exact .inr (.inl ⟨_,_,_,_,_,_,_,_,rfl,rfl,h.1.1.1.1,h.1.1.1.2,h.1.1.2,h.1.2,h.2⟩)
  |exact .inr (.inr ⟨_,_,_,_,_,_,_,_,rfl,rfl,h.1.1.1.1.1,h.1.1.1.1.2,h.1.1.1.2,h.1.1.2,h.1.2,h.2⟩)
def nH (e:Expr){x:Ex}(h:mE S x e=true):og e=true\/∃ elt gs scope p,e=.ListComp elt gs scope p:=by
 cases e<;>first|exact .inl rfl|exact .inr ⟨_,_,_,_,rfl⟩|(cases x<;>cases(show false=true from h))
def Dh {G:Gx}{X:Cx}{E:St->XK}(g:Gs X G S k E){i:Nat}{x:Str}{e:Ex}{e':Expr}{px:Pos}(hx:S.loc i x=true)(h:mE S e e'=true):PS X (.Assign [.Name x px] e' p) (λD U H=>wS (.asg i e) G D E U H):=by
 obtain⟨hi,hl⟩:=g.loc hx;have hN:X.N.Nodup:=by rw[g.N];exact g.nd
 rcases nH e' h with hn|⟨elt,gs,scope,pp,rfl⟩
 .exact ub hN hi hl (sE e g.toGd h) (eD hn _ _ _) (.inl (g.fn x))
 .intro Y s U H D I q;obtain⟨b,hb,hb2⟩:=ot (elt:=elt) (gs:=gs) (scope:=scope) (p:=pp) (py:=px) (y:=x) (n:=p.line) (env:=X.env) I.ok.kind;cases b with
  |false=>exact ub hN hi hl (sE e g.toGd h) hb (.inl (g.fn x)) Y s U H D I q
  |true=>
   rcases Ck h with⟨e2,sel,it,y,py,iter,rfl,rfl,h1,h2,h3,h4⟩|⟨e2,c,sel,it,y,py,iter,c',rfl,rfl,h1,h2,h3,h5,h4⟩|⟨e2,n,sel,it,ts,kt,pt,iter,rfl,rfl,h1,h5,h6,h2,h3,h4⟩
   .obtain⟨hc,q⟩:=(show G.cm=true/\wI G it U H (λJ H1=>qQ (λσ' H' Q'=>wE G e2 σ' H' Q' (λ_ _=>False)) J (none::c6 U sel) H1 (λx H1=>D.nx (U.set i (some x)) H1)) (E U) from q);rw[vJ]at q;obtain⟨cl,C⟩:=bj g.toGd I.ok h1;exact rK (g.cm hc) C (sI it g.toGd h2) (λs H fp=>sE e2 (g.toGd.comp C s H fp) h3) (aS h4 _) hN hi (hb2 rfl) hb Y s U H D I q
   .obtain⟨hc,q⟩:=(show G.cm=true/\wI G it U H (λJ H1=>A4 (λσ' H' Q'=>wT G c σ' H' Q' (λ_ _=>False)) (λσ' H' Q'=>wE G e2 σ' H' Q' (λ_ _=>False)) J (none::c6 U sel) H1 (λx H1=>D.nx (U.set i (some x)) H1)) (E U) from q);rw[uk]at q;obtain⟨cl,C⟩:=bj g.toGd I.ok h1;exact dX (g.cm hc) C (sI it g.toGd h2) (λs H fp=>kr C) (λs H fp=>pX (sT c (g.toGd.comp C s H fp) h5)) (λs H fp=>sE e2 (g.toGd.comp C s H fp) h3) (aS h4 _) hN hi (hb2 rfl) hb Y s U H D I q
   .obtain⟨hc,q⟩:=(show G.cm=true/\wI G it U H (λJ H1=>LCt G.R.K n (λσ' H' Q'=>wE G e2 σ' H' Q' (λ_ _=>False)) J (sn n none++c6 U sel) H1 (λx H1=>D.nx (U.set i (some x)) H1)) (E U) from q);rw[vg,<-pU h6]at q;obtain⟨cl,C⟩:=bj g.toGd I.ok h1;exact dX (g.cm hc) C (sI it g.toGd h2) (λs H fp=>pf (g.toGd.comp C s H fp) hc h5) (λs H fp=>gS) (λs H fp=>sE e2 (g.toGd.comp C s H fp) h3) (aS h4 _) hN hi (hb2 rfl) hb Y s U H D I q
mutual
theorem sS:∀ (x:Sx){G:Gx}{X:Cx}{S:Sn}{E:St->XK},Gs X G S k E->∀ {st:Stmt},mS S x st=true->PS X st (λD U H=>wS x G D E U H)
 | .asg i e,G,X,S,E,g,st,h=>by
  sleep 3
  simp only[lw]at h;exact Dh g h.1 h.2
 | .asgT is e,G,X,S,E,g,st,h=>by cases(show false=true from h)
 | .par is es,G,X,S,E,g,st,h=>by cases(show false=true from h)
 | .sub o i v,G,X,S,E,g,st,h=>by
  sleep 3
  simp only[lw]at h;obtain⟨⟨⟨h1,h2⟩,h3⟩,h4⟩:=h;exact Bq (sE v g.toGd h3) (AZ (sE o g.toGd h1) (sE i g.toGd h2) (pS g.un) (nJ h4)) (rF _ _) (ng _) rfl
 | .fld o f v,G,X,S,E,g,st,h=>by
  sleep 3
  simp only[lw,decide_eq_true_eq]at h;obtain⟨⟨h1,rfl⟩,h3⟩:=h;intro Y s U H D I q;have q':wE G v U H (λy H1=>wE G o U H1 (λx H2=>BS G f x y H2 (λH3=>D.nx U H3)) (E U)) (E U):=q;refine plainObj_wpAny_Assign_Attribute (aB (sE v g.toGd h3 Y s U H _ I q') λu s1 ⟨y,H1,I1,ry,q⟩=>aB (sE o g.toGd h1 Y s1 U H1 _ I1 q) λov s2 ⟨x,H2,I2,rx,q2⟩=>?_) (rO _ _);unfold BS at q2;obtain⟨a,i,rfl,hna,q2⟩:=q2;obtain rfl:ov=Value.ref a:=rx;have n:=g.tab.na i f hna;rcases q2 with⟨dx,fs,ho,ea,l,q2⟩|⟨d,fs,fr,ho,ea,l,q2⟩|⟨fr,ho,ea,q2⟩
  .exact nG I2 ea (g.tab.oc i ho).1 n l ry λs3 I3=>⟨U,_,I3,q2⟩
  .exact oH I2 ea (g.tab.xc i ho).1 n l ry λs3 I3=>⟨U,_,I3,q2⟩
  .exact o6 I2 ea (g.tab.xc i ho).1 n ry λd s3 hd I3=>⟨U,_,I3,q2 d hd⟩
 | .aug i op e,G,X,S,E,g,st,h=>by
  sleep 2
  simp only[lw,decide_eq_true_eq]at h;obtain⟨⟨h1,rfl⟩,h3⟩:=h;obtain⟨hi,hl⟩:=g.loc h1;refine PS.imp (BN (by rw[g.N];exact g.nd) hi hl (sE e g.toGd h3) (zh op) (.inl (g.fn _))) λD U H q=>?_
  conv at q=>whnf
  split at q
  .rename_i e;exact⟨_,e,q⟩
  .exact q.elim
 | .augS o i op e,G,X,S,E,g,st,h=>by
  sleep 2
  simp only[lw,decide_eq_true_eq]at h;obtain⟨⟨⟨⟨h1,h2⟩,rfl⟩,h3⟩,h4⟩:=h;exact xT (sE o g.toGd h1) (sE i g.toGd h2) (zr g.toGd) (sE e g.toGd h3) (zh op) (pS g.un) (wF h4)
 | .ret e,G,X,S,E,g,st,h=>by
  sleep 2
  exact Ai (sE e g.toGd h)
 | .retN,G,X,S,E,g,st,h=>by cases(show false=true from h)
 | .pass,G,X,S,E,g,st,h=>by cases(show false=true from h)
 | .brk,G,X,S,E,g,st,h=>by cases(show false=true from h)
 | .cont,G,X,S,E,g,st,h=>by cases(show false=true from h)
 | .expr e,G,X,S,E,g,st,h=>by
  sleep 1
  simp only[lw]at h;exact vX (sE e g.toGd h.1) (eD h.2 _ _ _)
 | .ife c a b,G,X,S,E,g,st,h=>by
  sleep 1
  simp only[lw]at h;exact PS.imp (Cb (PT.bX (sT c g.toGd h.1.1)) (sB a g h.1.2) (sB b g h.2)) λD U H q=>⟨_,q,λk H1 z=>by rwa [dm]at z⟩
 | .whl c b,G,X,S,E,g,st,h=>by cases(show false=true from h)
 | .for t it b,G,X,S,E,g,st,h=>by
  sleep 2
  simp only[lw]at h;obtain⟨⟨⟨h1,h2⟩,h3⟩,h4⟩:=h;intro Y s U H D I q
  conv at q=>whnf
  obtain⟨hc,q⟩:=q;unfold ji at q;exact AN g.own (g.cm hc) (sI it g.toGd h2) (CC g hc h1) (sB b g h3) (aS h4 _) Y s U H D I q
 | .rais e,G,X,S,E,g,st,h=>by
  sleep 3
  intro Y s U H D I q
  conv at q=>whnf
  obtain⟨hc,q⟩:=q;refine uP (g.xok hc) (g.cm hc) (PE.bX (sE e g.toGd h)) Y s U H D I ⟨_,q,λv H1 z=>?_⟩;obtain⟨a,i,dx,fs,ev,ea,hi,q⟩:=z;exact⟨a,_,dx,fs,ev,ea,(g.tab.xc i hi).1,q⟩
 | .tryx b hs,G,X,S,E,g,st,h=>by
  sleep 4
  simp only[lw]at h;intro Y s U H D I q;obtain⟨hc,q⟩:=(show G.cm=true/\wB b G D (λσ' e H'=>wH hs G D σ' e H') U H from q);refine As (E':=λσ' e H'=>wH hs G D σ' e H') I g.stk g.fr (λxe hx ho=>?_) λσ' H' s' e C dx fs T J he hT hH hp st q'=>?_
  .exact sB b (g.et hx ho) h.1 [] s U H D (I.et xe) q
  .exact sH hs g h.2 J he hT hH hp st q'
theorem sB:∀ (x:iO){G:Gx}{X:Cx}{S:Sn}{E:St->XK},Gs X G S k E->∀ {st:List Stmt},mB S x st=true->yD X st (λD U H=>wB x G D E U H)
 | .nil,G,X,S,E,g,[],h=>wa
 | .nil,G,X,S,E,g,_::_,h=>by cases(show false=true from h)
 | .cons x xs,G,X,S,E,g,[],h=>by cases(show false=true from h)
 | .cons x xs,G,X,S,E,g,st::sts,h=>by
  have h:(mS S x st&&mB S xs sts)=true:=h;simp only[lw]at h;exact t5 (sS x g h.1) (sB xs g h.2)
theorem sH:∀ (x:vW){G:Gx}{X:Cx}{S:Sn}{E:St->XK},Gs X G S k E->∀ {hs:List ExceptHandler},mH S x hs=true->∀ {Y:GD}{U:St}{H:Hp}{s:Shared}{e C:Addr}{dx:Option Addr}{fs:List (Str×V)}{T:Addr}{D:Ends},
  L2.Inv X Y U H s->H e=some (.exc C dx fs false)->X.s₀.heap.objs.size<=T->H T=none->(∀ p ∈ X.pn++Y,p.1≠T)->vT s.heap e T .none->wH x G D U e H->wpAny (model X.prog X.w) X.A (handleBy (.ref e) X.env hs) (SP X Y D) X.xe s
 | .nil,G,X,S,E,g,hs,h,Y,U,H,s,e,C,dx,fs,T,D,I,he,hT,hH,hp,st,q=>by
  simp only[wH]at q
 | .cons c i b hs,G,X,S,E,g,l,h,Y,U,H,s,e,C,dx,fs,T,D,I,he,hT,hH,hp,st,q=>by
  conv at h=>lhs;whnf
  split at h
  .simp only[lw,decide_eq_true_eq]at h;obtain⟨⟨⟨⟨⟨h1,h2⟩,h3⟩,h4⟩,h5⟩,h6⟩:=h;obtain⟨hg,hdb⟩:=g.glob h1;have hm:=g.tab.gcl _ _ (g.hT▸h2);obtain⟨j,dx',fs',kk,he',hxc,hsub,q⟩:=(show ∃ j dx fs k,H e=some (.exc (G.R.cad j) dx fs false)/\G.T.xc.contains j=true/\G.T.sub.lookup (j,c)=some k/\_ from q);have ee:=he.symm.trans he'
   injection ee with ee
   injection ee with e1 e2 e3 e4
   subst e1;obtain⟨_,hs2⟩:=g.tab.sub j c kk hsub;obtain⟨hs3,hs4⟩:=hs2 hxc;refine l8 (i:=i) I he hT hH hp st (g.tab.xc j hxc).1 hs4 hs3 hg hm (by rw[g.N];exact g.nd) (by rw[g.N];exact h3) (by rw[g.sc];exact h4) hdb (λhk s2 J=>?_) λhk=>?_
   .rw[hk]at q;unfold gc at q;exact sB b (g.aW (.ref e)) h5 Y s2 _ H _ J q
   .rw[hk]at q;unfold gc at q;exact sH hs g h6 I he hT hH hp st q
  .cases h
end
end
abbrev cb (T:Tab)(R:Rt):Nat->Nat->Sp
 |0,_=>λ_ _ _ _=>False
 |k+1,f=>λvs H Q E=>match T.fns[f]? with
  |some d=>vs.length=d.ps.length/\wB d.body ⟨T,R,cb T R k,true⟩ { nx:=λ_ H'=>Q .non H',rt:=Q } (λ_=>E) (start d.N vs) H
  |none=>False
structure rE (K:W.Frag) (T:Tab) (f:Addr) (d:aE):Prop where
 ex:∃ (name qual:Str) (params:Arguments) (body:List Stmt) (scope:Scope) (dV kV doc pm cdv ct oc:Value) (od an:Option Addr) (osl:Array (Option Value)),
  K.lookup f=some ⟨oc,od,.func (W.fnOf name qual params body scope dV kV doc pm an cdv ct),osl⟩/\W.codeIn K cdv qual=true/\gR d.N d.ps scope/\mB ⟨T,scope,d.N⟩ d.body body=true/\
  ∀ j,∃ ds,Binds K (W.fnOf name qual params body scope dV kV doc pm an cdv ct) d.ps ds/\Vals (d.dfl.drop j) ds
def vc {P:Program}{w:World}{K:W.Frag}{mg:GF}{base:Heap}{T:Tab}{R:Rt}(tab:wL K mg T R)(hK:R.K=K)(fs:∀ f d,T.fns[f]? =some d->rE K T (R.fad f) d):
  ∀ (k f:Nat) (d:aE),T.fns[f]? =some d->vz P w K mg base (2*k) (R.fad f) d (cb T R k f)
 |0,f,d,hd=>by
  obtain⟨name,qual,params,body,scope,dV,kV,doc,pm,cdv,ct,oc,od,an,osl,lk,hcd,S,hm,hb⟩:=(fs f d hd).ex;exact⟨⟨_,⟨λ_ _ _ _ h=>h.elim,λ_ _ _ _ _ _ _ _ _ _ _ _ _ h=>h.elim⟩,hb⟩,λ_ _ _ _ _=>⟨λ_ _ _ _ h=>h.elim,λ_ _ _ _ _ _ _ _ _ _ _ _ _ h=>h.elim⟩⟩
 |k+1,f,d,hd=>by
  obtain⟨name,qual,params,body,scope,dV,kV,doc,pm,cdv,ct,oc,od,an,osl,lk,hcd,S,hm,hb⟩:=(fs f d hd).ex;have F:=C3 (P:=P) (w:=w) (mg:=mg) (base:=base) (CX:=sC P w) (k:=2*k+1) (sp:=cb T R (k+1) f) lk hcd S (λvs H Q E h=>?_) (λA outer s H vs Q E hr h=>?_)
  .refine⟨⟨_,F,hb⟩,λfd oc' od' osl' lk'=>?_⟩;have e:=lk.symm.trans lk'
   injection e with e
   injection e with e1 e2 e3 e4
   injection e3 with e3
   subst e3;exact F
  .simp only[cb,hd]at h;exact h.1
  .simp only[cb,hd]at h;refine⟨λD U H=>wB d.body ⟨T,R,cb T R k,true⟩ D (λ_=>E) U H,?_,h.2⟩;have hx:=qS (P:=P) (w:=w) (K:=K) (mg:=mg) (base:=base) (N:=d.N) (qual:=qual) (scope:=scope) (f:=R.fad f) (cd:=cdv) (A:=A) (outer:=outer) (E:=E) (s:=s) (H:=H);refine sB (k:=2*k) d.body (G:=⟨T,R,cb T R k,true⟩) (S:=⟨T,scope,d.N⟩) { hK:=hK,hT:=rfl,sc:=rfl,N:=rfl,nd:=S.nd,pass:=jD hx,cm:=λ_=>rfl,room:=λ_=>hr,un:= ?_,tab:=tab,fns:=λf' d' hd'=>vc tab hK fs k f' d' hd',xok:=λ_=>hx,own:=PassesOwn.leaving,stk:=rfl,fr:=rfl,fn:=λ_=>rfl } hm;have:=hr.un;show(A.deeper _).units+200<cLine
   omega
abbrev gm (K:W.Frag)(n:Nat):Sp:=λvs H Q _=>∃ (a:Addr) (ns:List Int),vs=[.ref a]/\aF K H a (ns.map V.int)/\ns.length<=n/\∀ H',Q (.bl true) H'
variable {P:Program}
def rZ {w:World}{H:Hp}{s:Shared}{e:Value}{s':Shared}(h:sC P w [] H s (λ_ _=>False) e s'):False:=by
 obtain⟨e,H',C,dx,fs,T,_,_,_,_,_,_,_,_,_,q⟩:=h;exact q
variable {K:W.Frag}{fd:FuncData}{ps:List Str}
def zZ (h:Binds K fd ps []):∀ j:Nat,∃ ds,Binds K fd ps ds/\Vals (([]:List V).drop j) ds:=λj=>⟨[],h,by simp;exact .nil⟩
def yd {ds:List Value}{T:Addr}{o:Obj}{items:Array Value}{c n:Nat}(hd:fd.defaults=.ref T)(ho:K.lookup T=some o)(hs:o.data=.seq items c)(hn:n+ds.length=ps.length)
  (h:∀ us:List Value,us.length=n->∃ k:Option (Array Value)->Sem (List (Str×Value)),bindArgs fd ⟨us,[]⟩=seqItems? fd.defaults >>= k/\k (some items)=pure (ps.zip (us++ds))):Binds K fd ps ds:=λs us X hl=>by
 obtain⟨k,h1,h2⟩:=h us (by rw[ci]at hl;omega);exact W.binds_K X hd ho hs h1 h2
def jm:∀ {vs:List V}{us:List Value}(j:Nat),Vals vs us->Vals (vs.drop j) (us.drop j)
 |_,_,0,h=>h
 |_,_,j+1,.nil=>by simp;exact .nil
 |_::_,_::_,j+1,.cons _ h=>by simpa using jm j h
def oY {α β:Type} [BEq α] [LawfulBEq α] {x:α}{y:β}:∀ {l:List (α×β)},l.lookup x=some y->(x,y) ∈ l
 | [],h=>by simp at h
 |(a,b)::l,h=>by
  rw[lookup_cons]at h;cases e:x ==a with
  |true=>
   rw[e]at h;have:=beq_iff_eq.mp e;subst this
   injection h with h
   subst h;exact li
  |false=>
   rw[e]at h;exact dl _ (oY h)
def iQ {α β:Type} [BEq α] [LawfulBEq α] {P:α->β->Prop}{l:List (α×β)}(h:∀ p ∈ l,P p.1 p.2):∀ x y,l.lookup x=some y->P x y:=λx y e=>h (x,y) (oY e)
def eK {α β γ:Type} [BEq α] [LawfulBEq α] [BEq β] [LawfulBEq β] {P:α->β->γ->Prop}{l:List ((α×β)×γ)}(h:∀ p ∈ l,P p.1.1 p.1.2 p.2):∀ x y z,l.lookup (x,y)=some z->P x y z:=λx y z e=>h ((x,y),z) (oY e)
def fR {α:Type} [BEq α] [LawfulBEq α] {P:α->Prop}{l:List α}(h:∀ p ∈ l,P p):∀ x,l.contains x=true->P x:=λx e=>h x (by simpa using e)
def xZ {α β:Type} [BEq α] [LawfulBEq α] [BEq β] [LawfulBEq β] {P:α->β->Prop}{l:List (α×β)}(h:∀ p ∈ l,P p.1 p.2):∀ x y,l.contains (x,y)=true->P x y:=λx y e=>h (x,y) (by simpa using e)
abbrev pI (P:Nat->aE->Prop):Nat->List aE->Prop
 |_,[]=>True
 |n,d::r=>P n d/\pI P (n+1) r
def yV {P:Nat->aE->Prop}:∀ {l:List aE}{n:Nat},pI P n l->∀ f d,l[f]? =some d->P (n+f) d
 | [],_,_,f,d,e=>by simp at e
 |a::l,n,h,0,d,e=>by
  have:a=d:=by simpa using e
  subst this;exact h.1
 |a::l,n,h,f+1,d,e=>by
  have:=yV h.2 f d (by simpa using e)
  rwa [Nat.add_assoc,Nat.add_comm 1 f]at this
def nN {P:Nat->aE->Prop}{l:List aE}(h:pI P 0 l):∀ f d,l[f]? =some d->P f d:=λf d e=>by
 have:=yV h f d e
 rwa [Nat.zero_add]at this
def BP {w:World}{mg:GF}{base:Heap}{T:Tab}{R:Rt}(tab:wL K mg T R)(hK:R.K=K)(fs:∀ f d,T.fns[f]? =some d->rE K T (R.fad f) d) (k fl:Nat) (d:aE) (hd:T.fns[fl]? =some d)
  {oc:Value}{od:Option Addr}{osl:Array (Option Value)}(lk:K.lookup (R.fad fl)=some ⟨oc,od,.func fd,osl⟩) (h:∀ vs H Q E,gm K 63 vs H Q E->cb T R k fl vs H Q E):cC P w K mg base (sC P w) (2*k) (R.fad fl) fd d.ps (gm K 63):=
 ((vc tab hK fs k fl d hd).own _ _ _ _ lk).imp h
end L3
namespace L3
open PySem L2
abbrev jR:HO->HO
 | .lst _=>.lst []
 | .dK _=>.dK []
 | .dT _=>.dT []
 | .aH _ (.dK _)=>.dK []
 | .ins C dx _=>.ins C dx []
 | .exc C _ _ _=>.exc C none [] false
 |o=>o
abbrev je (H H':Hp):Prop:=∀ a o,H a=some o->∃ o',H' a=some o'/\jR o'=jR o
def je.tup {H H':Hp}(g:je H H'){t:Addr}{xs:List V}(h:H t=some (.tup xs)):H' t=some (.tup xs):=by
 obtain⟨o',h1,h2⟩:=g t _ h;have key:∀ u:HO,jR u=.tup xs->u=.tup xs:=λu=>by cases u<;>intro e<;>first|exact e|cases e|(rename_i v;cases v<;>cases e)
 rw[key o' h2]at h1;exact h1
variable {H:Hp}{a:Addr}{xs:List V}
def E0 (e:H a=some (.lst xs)):tyName (.ref a) H=some "list":=by
 show(match H a with|some (.lst _)=>some "list"|some (.tup _)=>some "tuple"|some (.dK _)=>some "dict"|some (.aH _ (.dK _))=>some "dict"|_=>none)=_;rw[e]
def je.upd {o o':HO}(h:H a=some o)(e:jR o'=jR o):je H (L2.upd H a o'):=λb u hb=>by
 by_cases z:b=a
 .subst z;rw[h]at hb;cases hb;exact⟨o',ak,e⟩
 .exact⟨u,(ah z).trans hb,rfl⟩
def je.new {o':HO}(h:H a=none):je H (L2.upd H a o'):=λb u hb=>⟨u,(ah λz=>by rw[z,h]at hb;cases hb).trans hb,rfl⟩
structure ai where
 p:Hp->(Addr->Prop)->Prop
 st:∀ H H' D,p H D->(∀ a,D a->H' a=H a)->je H H'->p H' D
 up:∀ H D D',p H D->(∀ a,D a->D' a)->p H D'
abbrev pt (a:Addr)(o:HO):ai:=⟨λH D=>D a/\H a=some o,λH H' D h k _=>⟨h.1,(k a h.1).trans h.2⟩,λH D D' h k=>⟨k a h.1,h.2⟩⟩
abbrev tu (t:Addr)(xs:List V):ai:=⟨λH _=>H t=some (.tup xs),λH H' D h _ k=>k.tup h,λH D D' h _=>h⟩
abbrev pu (φ:Prop):ai:=⟨λ_ _=>φ,λ_ _ _ h _ _=>h,λ_ _ _ h _=>h⟩
abbrev ex {α:Type}(f:α->ai):ai:=⟨λH D=>∃ x,(f x).p H D,λH H' D ⟨x,h⟩ k t=>⟨x,(f x).st H H' D h k t⟩,λH D D' ⟨x,h⟩ k=>⟨x,(f x).up H D D' h k⟩⟩
abbrev om (A B:ai):ai:=⟨λH D=>∃ D1 D2:Addr->Prop,(∀ a,D1 a->D a)/\(∀ a,D2 a->D a)/\(∀ a,D1 a->D2 a->False)/\A.p H D1/\B.p H D2,
 λH H' D ⟨D1,D2,s1,s2,dj,h1,h2⟩ k t=>⟨D1,D2,s1,s2,dj,A.st H H' D1 h1 (λa z=>k a (s1 a z)) t,B.st H H' D2 h2 (λa z=>k a (s2 a z)) t⟩,
 λH D D' ⟨D1,D2,s1,s2,dj,h1,h2⟩ k=>⟨D1,D2,λa z=>k a (s1 a z),λa z=>k a (s2 a z),dj,h1,h2⟩⟩
abbrev aR:List ai->Hp->(Addr->Prop)->Prop
 | [],_,_=>True
 |A::O,H,D=>∃ D1 D2:Addr->Prop,(∀ a,D1 a->D a)/\(∀ a,D2 a->D a)/\(∀ a,D1 a->D2 a->False)/\A.p H D1/\aR O H D2
abbrev Sep (O:List ai)(H:Hp):Prop:=∃ D:Addr->Prop,(∀ a,D a->H a≠none)/\aR O H D
inductive au (A:ai):List ai->List ai->Prop where
 |e {O:List ai}:au A (A::O) O
 |t {B:ai}{O Γ':List ai}(h:au A O Γ'):au A (B::O) (B::Γ')
variable {g:List ai}
section
variable {A B:ai}{O Γ':List ai}{H H':Hp}{a b p t:Addr}{o o':HO}{xs:List V}{φ:Prop}
def aR.st:∀ {O:List ai}{H H':Hp}{D:Addr->Prop},aR O H D->(∀ a,D a->H' a=H a)->je H H'->aR O H' D
 | [],_,_,_,_,_,_=>True.intro
 |A::O,H,H',D,⟨D1,D2,s1,s2,dj,h1,h2⟩,k,t=>⟨D1,D2,s1,s2,dj,A.st H H' D1 h1 (λa z=>k a (s1 a z)) t,aR.st h2 (λa z=>k a (s2 a z)) t⟩
def aR.up:∀ {O:List ai}{H:Hp}{D D':Addr->Prop},aR O H D->(∀ a,D a->D' a)->aR O H D'
 | [],_,_,_,_,_=>True.intro
 |A::O,H,D,D',⟨D1,D2,s1,s2,dj,h1,h2⟩,k=>⟨D1,D2,λa z=>k a (s1 a z),λa z=>k a (s2 a z),dj,h1,h2⟩
def Sep.nil:Sep [] H:=⟨λ_=>False,λ_ z=>z.elim,True.intro⟩
def aR.pull:∀ {O Γ':List ai}{D:Addr->Prop},au A O Γ'->aR O H D->aR (A::Γ') H D:=by
 intro O Γ' D h
 induction h generalizing D with
 |e=>exact λz=>z
 |t h ih=>
  rintro⟨D1,D2,s1,s2,dj,h1,h2⟩;obtain⟨E1,E2,t1,t2,ej,k1,k2⟩:=ih h2;refine⟨E1,λa=>D1 a\/E2 a,λa z=>s2 a (t1 a z),λa z=>z.elim (s1 a) λz=>s2 a (t2 a z),λa z1 z2=>?_,k1,D1,E2,λa z=>.inl z,λa z=>.inr z,λa z1 z2=>dj a z1 (t2 a z2),h1,k2⟩;rcases z2 with z2|z2
  .exact dj a z2 (t1 a z1)
  .exact ej a z1 z2
def Sep.pull (h:au A O Γ')(s:Sep O H):Sep (A::Γ') H:=let⟨D,k,z⟩:=s;⟨D,k,aR.pull h z⟩
def aR.push:∀ {O Γ':List ai}{D:Addr->Prop},au A O Γ'->aR (A::Γ') H D->aR O H D:=by
 intro O Γ' D h
 induction h generalizing D with
 |e=>exact λz=>z
 |t h ih=>
  rintro⟨D1,D2,s1,s2,dj,h1,E1,E2,t1,t2,ej,k1,k2⟩;refine⟨E1,λa=>D1 a\/E2 a,λa z=>s2 a (t1 a z),λa z=>z.elim (s1 a) λz=>s2 a (t2 a z),λa z1 z2=>?_,k1,ih ⟨D1,E2,λa z=>.inl z,λa z=>.inr z,λa z1 z2=>dj a z1 (t2 a z2),h1,k2⟩⟩;rcases z2 with z2|z2
  .exact dj a z2 (t1 a z1)
  .exact ej a z1 z2
def Sep.push (h:au A O Γ')(s:Sep (A::Γ') H):Sep O H:=let⟨D,k,z⟩:=s;⟨D,k,aR.push h z⟩
def Sep.drop (s:Sep (A::O) H):Sep O H:=let⟨D,k,D1,D2,s1,s2,dj,h1,h2⟩:=s;⟨D2,λa z=>k a (s2 a z),h2⟩
def Sep.at (s:Sep (pt a o::O) H):H a=some o:=let⟨D,k,D1,D2,s1,s2,dj,h1,h2⟩:=s;h1.2
def Sep.atT (s:Sep (tu t xs::O) H):H t=some (.tup xs):=let⟨D,k,D1,D2,s1,s2,dj,h1,h2⟩:=s;h1
def Sep.pure (s:Sep (pu φ::O) H):φ:=let⟨D,k,D1,D2,s1,s2,dj,h1,h2⟩:=s;h1
def Sep.Er (h:φ)(s:Sep O H):Sep (pu φ::O) H:=let⟨D,k,h2⟩:=s;⟨D,k,λ_=>False,D,λ_ z=>z.elim,λ_ z=>z,λ_ z _=>z,h,h2⟩
def Sep.rW (h:H t=some (.tup xs))(s:Sep O H):Sep (tu t xs::O) H:=let⟨D,k,h2⟩:=s;⟨D,k,λ_=>False,D,λ_ z=>z.elim,λ_ z=>z,λ_ z _=>z,h,h2⟩
def Sep.ne (s:Sep (pt a o::pt b o'::O) H):a≠b:=by
 obtain⟨D,k,D1,D2,s1,s2,dj,h1,E1,E2,t1,t2,ej,k1,k2⟩:=s;rintro rfl;exact dj a h1.1 (t1 a k1.1)
def Sep.set (s:Sep (pt a o::O) H)(n:jR o'=jR o):Sep (pt a o'::O) (upd H a o'):=by
 obtain⟨D,k,D1,D2,s1,s2,dj,h1,h2⟩:=s;refine⟨D,λb z=>?_,D1,D2,s1,s2,dj,⟨h1.1,ak⟩,aR.st h2 (λb z=>ah λe=>dj a h1.1 (e▸z)) (je.upd h1.2 n)⟩
 by_cases e:b=a
 .rw[e,ak];exact λz=>by cases z
 .rw[ah e];exact k b z
def Sep.new (s:Sep O H)(h:H p=none):Sep (pt p o::O) (upd H p o):=by
 obtain⟨D,k,z⟩:=s;have ne:∀ b,D b->b≠p:=λb hb e=>k b hb (e▸h)
 refine⟨λb=>b=p\/D b,λb hb=>?_,λb=>b=p,D,λb e=>.inl e,λb e=>.inr e,λb e z=>ne b z e,⟨rfl,ak⟩,aR.st z (λb hb=>ah (ne b hb)) (je.new h)⟩;rcases hb with rfl|hb
 .rw[ak];exact λz=>by cases z
 .rw[ah (ne b hb)];exact k b hb
def Sep.fN (s:Sep O H)(h:H p=none):Sep (tu p xs::O) (upd H p (.tup xs)):=Sep.rW ak (Sep.drop (s.new (o:=.tup xs) h))
def Sep.toT (s:Sep (pt t (.tup xs)::O) H):Sep (tu t xs::O) H:=Sep.rW s.at s.drop
def Sep.star:Sep (om A B::O) H ↔ Sep (A::B::O) H:=by
 constructor
 .rintro⟨D,k,D1,D2,s1,s2,dj,⟨E1,E2,t1,t2,ej,k1,k2⟩,h2⟩;refine⟨D,k,E1,λa=>E2 a\/D2 a,λa z=>s1 a (t1 a z),λa z=>z.elim (λz=>s1 a (t2 a z)) (s2 a),λa z1 z2=>?_,k1,E2,D2,λa z=>.inl z,λa z=>.inr z,λa z1 z2=>dj a (t2 a z1) z2,k2,h2⟩;rcases z2 with z2|z2
  .exact ej a z1 z2
  .exact dj a (t1 a z1) z2
 .rintro⟨D,k,D1,D2,s1,s2,dj,h1,E1,E2,t1,t2,ej,k1,k2⟩;refine⟨D,k,λa=>D1 a\/E1 a,E2,λa z=>z.elim (s1 a) λz=>s2 a (t1 a z),λa z=>s2 a (t2 a z),λa z1 z2=>?_,⟨D1,E1,λa z=>.inl z,λa z=>.inr z,λa z1 z2=>dj a z1 (t1 a z2),h1,k1⟩,k2⟩;rcases z1 with z1|z1
  .exact dj a z1 (t2 a z2)
  .exact ej a z1 z2
def Sep.D6 {α:Type}{f:α->ai}:Sep (ex f::O) H ↔ ∃ x,Sep (f x::O) H:=by
 constructor
 .rintro⟨D,k,D1,D2,s1,s2,dj,⟨x,h1⟩,h2⟩;exact⟨x,D,k,D1,D2,s1,s2,dj,h1,h2⟩
 .rintro⟨x,D,k,D1,D2,s1,s2,dj,h1,h2⟩;exact⟨D,k,D1,D2,s1,s2,dj,⟨x,h1⟩,h2⟩
def Sep.get (s:Sep O H)(h:au (pt a o) O Γ'):H a=some o:=(s.pull h).at
def Sep.Ag (s:Sep O H)(h:au (tu t xs) O Γ'):H t=some (.tup xs):=(s.pull h).atT
inductive bH (A B:ai):List ai->List ai->Prop where
 |e {O:List ai}:bH A B (A::O) (B::O)
 |t {C:ai}{O Γ':List ai}(h:bH A B O Γ'):bH A B (C::O) (C::Γ')
def au.k1 {b:ai}:au A (b::A::g) (b::g):=.t .e
def au.k2 {b c:ai}:au A (b::c::A::g) (b::c::g):=.t .k1
def au.k3 {b c d:ai}:au A (b::c::d::A::g) (b::c::d::g):=.t .k2
def au.j2 {b c:ai}{f:List ai}(h:au A g f):au A (b::c::g) (b::c::f):=.t (.t h)
def bH.k1 {b:ai}:bH A B (b::A::g) (b::B::g):=.t .e
def bH.k2 {b c:ai}:bH A B (b::c::A::g) (b::c::B::g):=.t .k1
def bH.k3 {b c d:ai}:bH A B (b::c::d::A::g) (b::c::d::B::g):=.t .k2
def bH.j2 {b c:ai}{f:List ai}(h:bH A B g f):bH A B (b::c::g) (b::c::f):=.t (.t h)
def bH.mq (h:bH A B O Γ'):∃ Δ,au A O Δ/\au B Γ' Δ:=by
 induction h with
 |e=>exact⟨_,.e,.e⟩
 |t h ih=>
  obtain⟨Δ,h1,h2⟩:=ih;exact⟨_,.t h1,.t h2⟩
def Sep.put (s:Sep O H)(h:bH (pt a o) (pt a o') O Γ')(n:jR o'=jR o):Sep Γ' (upd H a o'):=by
 obtain⟨Δ,h1,h2⟩:=h.mq;exact((s.pull h1).set n).push h2
inductive Sub:List ai->List ai->Prop where
 |refl {O:List ai}:Sub O O
 |nil {O:List ai}:Sub [] O
 |cons {A:ai}{O Γ' Δ:List ai}(h:au A O Δ) (r:Sub Γ' Δ):Sub (A::Γ') O
 |drop {A:ai}{O Γ':List ai}(r:Sub Γ' O):Sub Γ' (A::O)
def aR.sub:∀ {O Γ':List ai}{D:Addr->Prop},Sub Γ' O->aR O H D->aR Γ' H D:=by
 intro O Γ' D h
 induction h generalizing D with
 |refl=>exact λz=>z
 |nil=>exact λ_=>True.intro
 |cons h r ih=>
  intro z;obtain⟨D1,D2,s1,s2,dj,h1,h2⟩:=aR.pull h z;exact⟨D1,D2,s1,s2,dj,h1,ih h2⟩
 |drop r ih=>
  rintro⟨D1,D2,s1,s2,dj,h1,h2⟩;exact(ih h2).up s2
def Sep.sub (h:Sub Γ' O)(s:Sep O H):Sep Γ' H:=let⟨D,k,z⟩:=s;⟨D,k,aR.sub h z⟩
end
@[irreducible] noncomputable def ae (T:Tab) (R:Rt) (k f:Nat):Sp:=cb T R k f
def mC:ae=cb:=by
 funext T R k f
 unfold ae
 rfl
variable {Q:VK}
def wc {T:Tab}{R:Rt}{k f:Nat}{d:aE}{vs:List V}{E:XK}(hk:0<k)(hd:T.fns[f]? =some d)(hl:vs.length=d.ps.length)
  (h:wB d.body ⟨T,R,ae T R (k-1),true⟩ { nx:=λ_ H'=>Q .non H',rt:=Q } (λ_=>E) (start d.N vs) H):ae T R k f vs H Q E:=by
 rw[mC]at h⊢;cases k with
 |zero=>exact absurd hk (by decide)
 |succ k=>
  show(match T.fns[f]? with|some d=>_|none=>False);rw[hd];exact⟨hl,h⟩
variable {c:Bool}
def o8 {A B:Prop}(h1:c=true->A)(h2:c=false->B):gc c A B:=by
 unfold gc;cases c
 .exact h2 rfl
 .exact h1 rfl
def aQ {A B:Prop}(h:c=true)(h1:A):gc c A B:=by subst h;unfold gc;exact h1
def ao {A B:Prop}(h:c=false)(h1:B):gc c A B:=by subst h;unfold gc;exact h1
def AX {A B:Prop}(h:gc c B A):gc (!c) A B:=by
 unfold gc at h⊢;cases c
 .exact h
 .exact h
def bO {p:Prop} [Decidable p] {A B:Prop}(h1:p->A)(h2:¬ p->B):gc (decide p) A B:=o8 (λh=>h1 (of_decide_eq_true h)) λh=>h2 (of_decide_eq_false h)
def zC {p:Prop} [Decidable p] {A B:Prop}(h1:¬ p->A)(h2:p->B):gc (!decide p) A B:=o8 (λh=>h1 (by simpa using h)) λh=>h2 (by simpa using h)
def cL {i j:Int}{A B:Prop}(h1:i=j->A)(h2:i≠j->B):gc (gF (.int i) (.int j)) A B:=by
 show gc (i ==j) A B;exact o8 (λh=>h1 (by simpa using h)) λh=>h2 (by simpa using h)
variable {dx:Option Addr}{n j:Nat}{fs:List (Str×V)}{es:List V}{R:It->Hp->Prop}{fr b:Bool}
section
variable {K:W.Frag}{G:Gx}{O Γ':List ai}{H:Hp}{Q:VK}{a p:Addr}{o:HO}{xs ys:List V}{v w:V}{i:Int}{f:Str}
def al (s:Sep O H)(h:∀ p H',Sep (pt p o::O) H'->Q (.ref p) H'):∀ p,H p=none->Q (.ref p) (upd H p o):=λp hp=>h p _ (s.new hp)
def ef {C x dx:Addr}(s:Sep O H)(h1:H x=none)(h2:H dx=none)(h3:dx≠x):Sep (pt x (.ins C dx [])::pt dx (.own x)::O) (upd (upd H dx (.own x)) x (.ins C dx [])):=(s.new h2).new (by rw[ah h3.symm];exact h1)
def Al {E:XK}(s:Sep O H)(r:bH (pt a (.exc (G.R.cad n) dx fs true)) (pt a (.exc (G.R.cad n) dx fs false)) O Γ')(ho:G.T.xc.contains n=true)(h:∀ H',Sep Γ' H'->E a H'):
  ∃ b i dx fs,V.ref a=.ref b/\H b=some (.exc (G.R.cad i) dx fs true)/\G.T.xc.contains i=true/\E b (upd H b (.exc (G.R.cad i) dx fs false)):=by
 obtain⟨Δ,h1,h2⟩:=r.mq;exact⟨a,n,dx,fs,rfl,s.get h1,ho,h _ (s.put r rfl)⟩
def ay (s:Sep O H)(hl:es.length<=10000)(h:∀ p H',Sep (pt p (.lst es)::O) H'->Q (.ref p) H'):xJ es H Q:=by unfold xJ;exact⟨hl,al s h⟩
def bq (s:Sep O H)(hl:es.length<=10000)(h:∀ p H',Sep (pt p (.tup es)::O) H'->Q (.ref p) H'):fN es H Q:=by unfold fN;exact⟨hl,al s h⟩
def Br (s:Sep O H)(h:∀ p H',Sep (pt p (.dK [])::O) H'->Q (.ref p) H'):newD H Q:=by unfold newD;exact al s h
def c8 (e:H a=some (.lst xs))(hv:gX xs i=some v)(q:Q v H):pH K (.ref a) (.int i) H Q:=by unfold pH;exact .inl ⟨xs,i,v,rfl,.inl (aF.of e),hv,q⟩
def aj (e:H a=some (.tup xs))(hv:gX xs i=some v)(q:Q v H):pH K (.ref a) (.int i) H Q:=by unfold pH;exact .inl ⟨xs,i,v,rfl,.inr (bF.of e),hv,q⟩
def Dj {R:Hp->Prop}(s:Sep O H)(r:bH (pt a (.lst xs)) (pt a (.lst ys)) O Γ')(hj:xO xs.length i=some j)(hx:xs.set j v=ys)(h:∀ H',Sep Γ' H'->R H'):lu (.ref a) (.int i) v H R:=by
 obtain⟨Δ,h1,h2⟩:=r.mq;subst hx;unfold lu;exact .inl ⟨xs,i,j,rfl,s.get h1,hj,h _ (s.put r rfl)⟩
def CO (e:H a=some (.lst xs))(h0:0<=i)(hv:xs[i.toNat]? =some v)(q:Q v H):vO K (.ref a) (.int i) H Q:=by unfold vO;exact⟨xs,v,aF.of e,h0,hv,q⟩
def aA {dx:Addr}(e:H a=some (.ins (G.R.cad n) dx fs))(ho:G.T.oc.contains n=true)(hn:G.T.na.contains (n,f)=true)(hl:fs.lookup f=some v)(q:Q v H):nA G f (.ref a) H Q:=by unfold nA;exact⟨a,n,fs,v,rfl,.inl ⟨ho,dx,e⟩,hn,hl,q⟩
def Cy {dx:Addr}(e:H a=some (.exc (G.R.cad n) (some dx) fs fr))(ho:G.T.xc.contains n=true)(hn:G.T.na.contains (n,f)=true)(hl:fs.lookup f=some v)(q:Q v H):nA G f (.ref a) H Q:=by unfold nA;exact⟨a,n,fs,v,rfl,.inr ⟨ho,dx,fr,e⟩,hn,hl,q⟩
def EL {dx:Addr}{fs':List (Str×V)}{R:Hp->Prop}(s:Sep O H)(r:bH (pt a (.ins (G.R.cad n) dx fs)) (pt a (.ins (G.R.cad n) dx fs')) O Γ')(ho:G.T.oc.contains n=true)(hn:G.T.na.contains (n,f)=true)(hl:fs.length<1000)(hf:cp f v fs=fs')(h:∀ H',Sep Γ' H'->R H'):BS G f (.ref a) v H R:=by
 obtain⟨Δ,h1,h2⟩:=r.mq;subst hf;unfold BS;exact⟨a,n,rfl,hn,.inl ⟨dx,fs,ho,s.get h1,hl,h _ (s.put r rfl)⟩⟩
def Cm {R:Hp->Prop}(s:Sep (pt a (.exc (G.R.cad n) none [] fr)::O) H)(ho:G.T.xc.contains n=true)(hn:G.T.na.contains (n,f)=true)(h:∀ d H',Sep (pt a (.exc (G.R.cad n) (some d) [(f,v)] fr)::pt d (.own a)::O) H'->R H'):BS G f (.ref a) v H R:=by
 unfold BS;refine⟨a,n,rfl,hn,.inr (.inr ⟨fr,ho,s.at,λd hd=>h d _ ?_⟩)⟩;exact((s.new (o:=.own a) hd).pull (.t .e)).set rfl
def jq {n t:String}(ht:tyName v H=some t)(hb:G.T.subB.lookup (t,n)=some b)(q:Q (.bl b) H):fJ G (.ty n) v H Q:=by unfold fJ;exact .inl ⟨t,b,ht,hb,q⟩
def DK (e:H a=some (.exc (G.R.cad j) dx fs fr))(ho:G.T.xc.contains j=true)(hb:G.T.sub.lookup (j,n)=some b)(q:Q (.bl b) H):fJ G (.own n) (.ref a) H Q:=by unfold fJ;exact .inr ⟨a,j,b,rfl,.inr ⟨ho,dx,fs,fr,e⟩,hb,q⟩
def Aa {n:String}(e:H a=some (.exc (G.R.cad j) dx fs fr))(ho:G.T.xc.contains j=true)(hb:G.T.subT.lookup (j,n)=some b)(q:Q (.bl b) H):fJ G (.ty n) (.ref a) H Q:=by unfold fJ;exact .inr ⟨a,j,b,rfl,.inr ⟨ho,dx,fs,fr,e⟩,hb,q⟩
def aK {dx:Addr}(e:H a=some (.ins (G.R.cad j) dx fs))(ho:G.T.oc.contains j=true)(hb:G.T.sub.lookup (j,n)=some b)(q:Q (.bl b) H):fJ G (.own n) (.ref a) H Q:=by unfold fJ;exact .inr ⟨a,j,b,rfl,.inl ⟨ho,dx,fs,e⟩,hb,q⟩
def bG (e:H a=some (.lst xs))(q:Q (.int xs.length) H):gM G .len [.ref a] H Q:=by unfold gM;exact⟨_,xs.length,rfl,.inl ⟨xs,aF.of e,rfl⟩,q⟩
def uJ {j:Int}(hc:G.cm=true)(q:Q (.int (min i j)) H):gM G .min [.int i,.int j] H Q:=by
 unfold gM;refine⟨hc,.inl ⟨i,j,rfl,?_⟩⟩;have e:(if j<i then j else i)=min i j:=by split<;>omega
 rw[e];exact q
def dE (s:Sep O H)(e:H a=some (.lst xs))(h:∀ p H',Sep (pt p (.lst xs)::O) H'->Q (.ref p) H'):gM G .list [.ref a] H Q:=by unfold gM;exact .inl ⟨_,xs,rfl,.inl (aF.of e),al s h⟩
def cB (s:Sep O H){b:Addr}(e1:H a=some (.lst xs))(e2:H b=some (.lst ys))(hl:xs.length+ys.length<=100000)(h:∀ p H',Sep (pt p (.lst (xs++ys))::O) H'->Q (.ref p) H'):qZ K a b H Q:=by unfold qZ;exact .inl ⟨xs,ys,e1,e2,hl,al s h⟩
def sk (s:Sep O H)(e:H a=some (.lst xs))(h1: -1000<=i)(h2:i<=1000)(h3:xs.length<=1000)(h:∀ p H',Sep (pt p (.lst (sn i.toNat xs).flatten)::O) H'->Q (.ref p) H'):wV K a i H Q:=by unfold wV;exact .inl ⟨xs,e,h1,h2,h3,al s h⟩
def lO {y:V}(s:Sep O H)(r:bH (pt a (.lst xs)) (pt a (.lst (xs++[y]))) O Γ')(hl:xs.length<=10000)(h:∀ H',Sep Γ' H'->Q .non H'):vU .append a xs [y] H Q:=by unfold vU;exact⟨_,rfl,hl,h _ (s.put r rfl)⟩
def Cr (s:Sep O H)(r:bH (pt a (.lst xs)) (pt a (.lst [])) O Γ')(h:∀ H',Sep Γ' H'->Q .non H'):vU .clear a xs [] H Q:=by unfold vU;exact⟨rfl,h _ (s.put r rfl)⟩
def EM {lo hi:Option Int}(s:Sep O H)(e:aF K H a xs)(h:∀ p H',Sep (pt p (.lst (ft xs lo hi))::O) H'->Q (.ref p) H'):yO K (.ref a) lo hi H Q:=by unfold yO;exact .inl ⟨xs,e,al s h⟩
def i5 (e:H a=some (.lst xs))(h:R (xR K a) H):hW K a H R:=by unfold hW;exact .inl ⟨⟨xs,aF.of e⟩,h⟩
def ES (e:H a=some (.tup xs))(h:R (Dc K a) H):hW K a H R:=by unfold hW;exact .inr (.inl ⟨⟨xs,bF.of e⟩,h⟩)
def Bh (e:H a=some (.lst xs))(h:R (Dr a) H):xo a H R:=by unfold xo;exact⟨⟨xs,e⟩,h⟩
end
variable {x:V}
section
variable {K:W.Frag}{H:Hp}{Q:VK}
def iz (f:aD x=true):gF x x=true:=by
 cases x<;>simp[aD]at f<;>simp[gF]
def bz {y:V}(fx:aD x=true)(fy:aD y=true)(q:Q (.bl (gF x y)) H):cQ K false x y H Q:=by unfold cQ;exact⟨0,_,.flat fx fy,by decide,.inl fx,q⟩
def jU {y:V}(fx:aD x=true)(fy:aD y=true)(q:Q (.bl (!gF x y)) H):cQ K true x y H Q:=by unfold cQ;exact⟨0,_,.flat fx fy,by decide,.inl fx,q⟩
def tj {b:Addr}(h:d8 K H n (.ref a) (.ref b) c)(hn:n<=100)(ne:a≠b)(q:Q (.bl c) H):cQ K false (.ref a) (.ref b) H Q:=by unfold cQ;exact⟨n,c,h,hn,.inr (.inl λz=>ne (V.ref.inj z)),q⟩
def kY {b:Addr}(h:d8 K H n (.ref a) (.ref b) c)(hn:n<=100)(ne:a≠b)(q:Q (.bl (!c)) H):cQ K true (.ref a) (.ref b) H Q:=by unfold cQ;exact⟨n,c,h,hn,.inr (.inl λz=>ne (V.ref.inj z)),q⟩
def vk {t:String}(h:tyName x H=some t):d8 K H (n+1) x x true:=by
 have key:aD x=true->d8 K H (n+1) x x true:=λf=>by
  have:=d8.flat (K:=K) (H:=H) (n:=n+1) f f
  rwa [iz f]at this
 cases x<;>first|exact key rfl|exact .same _|(cases h)
def all_true (n:Nat):(List.range n).all (λ_=>true)=true:=by simp
def uV {b:Addr}(h1:H a=some (.lst xs))(h2:H b=some (.lst xs))(h:∀ x ∈ xs,∃ t,tyName x H=some t):d8 K H (n+2) (.ref a) (.ref b) true:=by
 have:=d8.ll (K:=K) (n:=n) (e:=λ_=>true) (aF.of h1) (aF.of h2) rfl λj x y e1 e2=>by
  rw[e1]at e2;cases e2;obtain⟨t,ht⟩:=h x (cr e1);exact vk ht
 rwa [all_true]at this
def zI {b:Addr}{ys:List V}(h1:H a=some (.lst xs))(h2:H b=some (.lst ys))(hl:xs.length=ys.length)(h:∀ (j:Nat) x y,xs[j]? =some x->ys[j]? =some y->d8 K H (n+1) x y true):d8 K H (n+2) (.ref a) (.ref b) true:=by
 have:=d8.ll (K:=K) (n:=n) (e:=λ_=>true) (aF.of h1) (aF.of h2) hl h
 rwa [all_true]at this
def vm {b:Addr}{ys:List V}(h1:H a=some (.tup xs))(h2:H b=some (.tup ys))(hl:xs.length=ys.length)(h:∀ (j:Nat) x y,xs[j]? =some x->ys[j]? =some y->d8 K H (n+1) x y true):d8 K H (n+2) (.ref a) (.ref b) true:=by
 have:=d8.tt (K:=K) (n:=n) (e:=λ_=>true) (bF.of h1) (bF.of h2) h;rw[all_true,hl]at this;simpa using this
end
variable {K:W.Frag}{rest:St}{te:TE}
section
variable {D:Ends}{F:(St->Hp->Prop)->V->St->Hp->Prop}{U:St}{H:Hp}
def fh {lo:Int}(I:Nat->St->Hp->Prop)(h0:I 0 U H)(hs:∀ j U H,j<n->I j U H->F (I (j+1)) (.int (lo+j)) U H) (hd:∀ U H,I n U H->D.nx U H):ji (B4 lo n) D F U H:=by
 unfold ji;refine⟨λi m U H=>m=n-i/\i<=n/\I i U H,⟨n,by simp,Nat.zero_le _,h0⟩,λi m U H ⟨e,hi,h⟩=>?_⟩
 by_cases hlt:i<n
 .refine .inr ⟨hlt,I (i+1),λσ' H' h'=>⟨n-(i+1),by omega,rfl,hlt,h'⟩,λx H' y=>?_⟩;obtain⟨rfl,rfl⟩:=y;exact hs i U H' hlt h
 .have:i=n:=by omega
  subst this;exact .inl ⟨pi _,hd U H h⟩
def gW (I:Nat->St->Hp->Prop)(h0:I 0 U H)(hl:∀ j U H,I j U H->aF K H a xs)
  (hs:∀ j x U H,xs[j]? =some x->I j U H->F (I (j+1)) x U H) (hd:∀ U H,I xs.length U H->D.nx U H):ji (xR K a) D F U H:=by
 unfold ji;refine⟨λi m U H=>m=xs.length-i/\i<=xs.length/\I i U H,⟨xs.length,by simp,Nat.zero_le _,h0⟩,λi m U H ⟨e,hi',h⟩=>?_⟩
 by_cases hlt:i<xs.length
 .refine .inr ⟨⟨xs,xs[i],hl i U H h,lf hlt⟩,I (i+1),λσ' H' h'=>⟨xs.length-(i+1),by omega,rfl,hlt,h'⟩,λx H' y=>?_⟩;obtain⟨rfl,hy⟩:=y;exact hs i x U H' (hy xs (hl i U H' h)) h
 .have:i=xs.length:=by omega
  subst this;exact .inl ⟨⟨xs,hl _ U H h,pi _⟩,hd U H h⟩
def pL (I:Nat->St->Hp->Prop)(h0:I 0 U H)(hl:∀ j U H,I j U H->H a=some (.lst xs)) (hs:∀ j x T U H,xs[j]? =some x->I j U H->H T=none->F (I (j+1)) (.ref T) U (upd H T (.tup [.int j,x])))
  (hd:∀ U H,I xs.length U H->D.nx U H):ji (Dr a) D F U H:=by
 unfold ji;refine⟨λi m U H=>m=xs.length-i/\i<=xs.length/\I i U H,⟨xs.length,by simp,Nat.zero_le _,h0⟩,λi m U H ⟨e,hi',h⟩=>?_⟩
 by_cases hlt:i<xs.length
 .refine .inr ⟨⟨xs,xs[i],hl i U H h,lf hlt⟩,I (i+1),λσ' H' h'=>⟨xs.length-(i+1),by omega,rfl,hlt,h'⟩,λx H' y=>?_⟩;obtain⟨T,z,hT,rfl,rfl,hy⟩:=y;exact hs i z T U H (hy xs (hl i U H h)) h hT
 .have:i=xs.length:=by omega
  subst this;exact .inl ⟨⟨xs,hl _ U H h,pi _⟩,hd U H h⟩
@[irreducible] noncomputable def jL (I:Addr->List V->Hp->Prop) (D:Addr) (ys:List V) (rest:St) (x:Option V):VK:=λv H3=>∃ zs,H3 D=some (.lst zs)/\zs.length<bn/\∃ ys2 x2,x::rest=x2::rest/\ys2.length=ys.length+1/\I D ys2 (upd H3 D (.lst (zs++[v])))
def jL.mk {I:Addr->List V->Hp->Prop}{D:Addr}{ys:List V}{x:Option V}{v:V}{H3:Hp}(h1:H3 D=some (.lst ys))(hl:ys.length<=999)(h2:I D (ys++[v]) (upd H3 D (.lst (ys++[v])))):jL I D ys rest x v H3:=
 by unfold jL;exact⟨ys,h1,bI nofun,ys++[v],x,rfl,by simp,h2⟩
def zK (hn:n<=1000)(I:Addr->List V->Hp->Prop)(h0:∀ D,H D=none->I D [] (upd H D (.lst [])))
  (hs:∀ D ys H',ys.length<n->I D ys H'->te (some (.int (0+(ys.length:Nat)))::rest) H' (jL I D ys rest (some (.int (0+(ys.length:Nat))))))
  (hd:∀ D ys H',ys.length=n->I D ys H'->Q (.ref D) H'):qQ te (B4 0 n) (none::rest) H Q:=by
 unfold qQ;intro D hD;refine⟨λi m σ' H'=>m=n-i/\i<=n/\∃ ys x0,σ'=x0::rest/\ys.length=i/\I D ys H',⟨n,by simp,Nat.zero_le _,[],none,rfl,rfl,h0 D hD⟩,λi m σ' H' ⟨e,hi,ys,x0,e1,e2,h⟩=>?_⟩;subst e1 e2
 by_cases hlt:ys.length<n
 .refine .inr ⟨hlt,λσ2 H2=>∃ ys2 x2,σ2=x2::rest/\ys2.length=ys.length+1/\I D ys2 H2,λσ2 H2 ⟨ys2,x2,f1,f2,f3⟩=>⟨n-(ys.length+1),by omega,rfl,hlt,ys2,x2,f1,f2,f3⟩,λx H'' y=>?_⟩;obtain⟨e1,e2⟩:=y;subst e1 e2;have z:=hs D ys H'' hlt h;unfold jL at z;exact z
 .have:ys.length=n:=by omega
  exact .inl ⟨Nat.le_of_eq this.symm,hd D ys H' this h⟩
def jZ (hn:xs.length<=1000)(I:Addr->List V->Hp->Prop)(hl:∀ D ys H,I D ys H->aF K H a xs) (h0:∀ D,H D=none->I D [] (upd H D (.lst [])))
  (hs:∀ D ys x H',xs[ys.length]? =some x->I D ys H'->te (some x::rest) H' (jL I D ys rest (some x)))
  (hd:∀ D ys H',ys.length=xs.length->I D ys H'->Q (.ref D) H'):qQ te (xR K a) (none::rest) H Q:=by
 unfold qQ;intro D hD;refine⟨λi m σ' H'=>m=xs.length-i/\i<=xs.length/\∃ ys x0,σ'=x0::rest/\ys.length=i/\I D ys H',⟨xs.length,by simp,Nat.zero_le _,[],none,rfl,rfl,h0 D hD⟩,λi m σ' H' ⟨e,hi,ys,x0,e1,e2,h⟩=>?_⟩;subst e1 e2
 by_cases hlt:ys.length<xs.length
 .refine .inr ⟨⟨xs,xs[ys.length],hl D ys H' h,lf hlt⟩,λσ2 H2=>∃ ys2 x2,σ2=x2::rest/\ys2.length=ys.length+1/\I D ys2 H2,λσ2 H2 ⟨ys2,x2,f1,f2,f3⟩=>⟨xs.length-(ys.length+1),by omega,rfl,hlt,ys2,x2,f1,f2,f3⟩,λx H'' y=>?_⟩;obtain⟨e1,hy⟩:=y;subst e1;have z:=hs D ys x H'' (hy xs (hl D ys H'' h)) h;unfold jL at z;exact z
 .have:ys.length=xs.length:=by omega
  exact .inl ⟨⟨xs,hl D ys H' h,Nat.le_of_eq this.symm⟩,hd D ys H' this h⟩
def sg {K:W.Frag}{G:Gx}{bs:List Bool}(hc:G.cm=true)(e:H a=some (.lst (bs.map V.bl)))(q:Q (.bl (bs.all id)) H):gM G .all [.ref a] H Q:=by unfold gM;exact⟨hc,_,bs,rfl,aF.of e,q⟩
def zP {K:W.Frag}{G:Gx}{ns:List Int}(hc:G.cm=true)(e:H a=some (.lst (ns.map V.int)))(q:Q (.int ns.sum) H):gM G .sum [.ref a] H Q:=by unfold gM;exact⟨hc,_,ns,rfl,aF.of e,q⟩
def oa (q:Q (.bl (decide (x=.non))) H):vV false x .non H Q:=by unfold vV;exact q
def pN (q:Q (.bl (!decide (x=.non))) H):vV true x .non H Q:=by unfold vV;exact q
def ED (e:bF K H a xs)(fx:aD x=true)(fs:xs.all aD=true)(q:Q (.bl (sM x xs)) H):mf K false x (.ref a) H Q:=by unfold mf;exact .inl ⟨xs,.inr e,fx,fs,q⟩
def EK (e:aF K H a xs)(fx:aD x=true)(fs:xs.all aD=true)(q:Q (.bl (sM x xs)) H):mf K false x (.ref a) H Q:=by unfold mf;exact .inl ⟨xs,.inl e,fx,fs,q⟩
end
variable {kvs:List (Key×V)}{k:Key}{o:Obj}{z:Str}
section
variable {K:W.Frag}{G:Gx}{O Γ':List ai}{H:Hp}{Q:VK}{a b:Addr}{xs ys:List V}{v:V}
def zW (e:H a=some (.dK kvs))(hv:a8 kvs k=some v)(q:Q v H):pH K (.ref a) (kV k) H Q:=by unfold pH;exact .inr ⟨v,.inl ⟨kvs,k,.inl e,rfl,hv.symm⟩,q⟩
def qm {kvs':List (Key×V)}{R:Hp->Prop}(s:Sep O H)(r:bH (pt a (.dK kvs)) (pt a (.dK kvs')) O Γ')(hl:kvs.length<=10000)(hx:putK kvs k v=kvs')(h:∀ H',Sep Γ' H'->R H'):lu (.ref a) (kV k) v H R:=by
 obtain⟨Δ,h1,h2⟩:=r.mq;subst hx;unfold lu;exact .inr ⟨_,.inl ⟨kvs,k,s.get h1,rfl,Nat.lt_of_le_of_lt hl (by decide),rfl⟩,h _ (s.put r rfl)⟩
def Bo (hn:xs.length<=1000)(I:Addr->List V->Hp->Prop)(hl:∀ D ys H,I D ys H->bF K H a xs) (h0:∀ D,H D=none->I D [] (upd H D (.lst [])))
  (hs:∀ D ys x H',xs[ys.length]? =some x->I D ys H'->te (some x::rest) H' (jL I D ys rest (some x)))
  (hd:∀ D ys H',ys.length=xs.length->I D ys H'->Q (.ref D) H'):qQ te (Dc K a) (none::rest) H Q:=by
 unfold qQ;intro D hD;refine⟨λi m σ' H'=>m=xs.length-i/\i<=xs.length/\∃ ys x0,σ'=x0::rest/\ys.length=i/\I D ys H',⟨xs.length,by simp,Nat.zero_le _,[],none,rfl,rfl,h0 D hD⟩,λi m σ' H' ⟨e,hi,ys,x0,e1,e2,h⟩=>?_⟩;subst e1 e2
 by_cases hlt:ys.length<xs.length
 .refine .inr ⟨⟨xs,xs[ys.length],hl D ys H' h,lf hlt⟩,λσ2 H2=>∃ ys2 x2,σ2=x2::rest/\ys2.length=ys.length+1/\I D ys2 H2,λσ2 H2 ⟨ys2,x2,f1,f2,f3⟩=>⟨xs.length-(ys.length+1),by omega,rfl,hlt,ys2,x2,f1,f2,f3⟩,λx H'' y=>?_⟩;obtain⟨e1,hy⟩:=y;subst e1;have z:=hs D ys x H'' (hy xs (hl D ys H'' h)) h;unfold jL at z;exact z
 .have:ys.length=xs.length:=by omega
  exact .inl ⟨⟨xs,hl D ys H' h,Nat.le_of_eq this.symm⟩,hd D ys H' this h⟩
def fe {d:Addr}(hc:G.cm=true)(s:Sep O H)(e:Rd H d (.dK kvs))(h:∀ p H',Sep (pt p (.lst (kvs.map (λkv=>kV kv.1)))::O) H'->Q (.ref p) H'):gM G .list [.ref d] H Q:=by unfold gM;exact .inr ⟨hc,d,kvs,rfl,e,al s h⟩
def C4 {p:Addr}(s:Sep O H)(e:H p=some (.lst xs))(h:∀ l H',Sep (pt l (.lst xs.reverse)::O) H'->Q (.ref l) H'):yf K (.ref p) (.int (-1)) H Q:=by unfold yf;exact⟨rfl,p,xs,rfl,aF.of e,al s h⟩
def Ed {p:Addr}{y:V}(e:V->Bool)(h1:H p=some (.lst xs))(hl:xs.length<=10000)(he:∀ x ∈ xs,∃ n,n<=100/\d8 K H n x y (e x)) (hj:xs[j]? =some x) (ej:e x=true) (hm:∀ (m:Nat) x,m<j->xs[m]? =some x->e x=false) (q:Q (.int (j:Int)) H):ui K p y H Q:=by unfold ui;exact⟨xs,e,j,x,h1,hl,he,hj,ej,hm,q⟩
def qI {C:Addr}(s:Sep O H)(h:∀ x dx H',Sep (pt x (.ins C dx [])::pt dx (.own x)::O) H'->Q (.ref x) H'):uZ C H Q:=by unfold uZ;exact λx dx h1 h2 h3=>h x dx _ (ef s h1 h2 h3)
def ER {lo hi:Option Int}(s:Sep O H)(e:H a=some (.tup xs))(hw:¬ (HT.bb xs.length 0 lo=0/\HT.bb xs.length xs.length hi=xs.length))(h:∀ p H',Sep (pt p (.tup (ft xs lo hi))::O) H'->Q (.ref p) H'):yO K (.ref a) lo hi H Q:=by unfold yO;exact .inr ⟨a,xs,rfl,bF.of e,hw,al s h⟩
def Ec (s:Sep (pt a (.dK kvs)::O) H)(h:∀ o H',Sep (pt a (.aH o (.dK kvs))::O) H'->R (yR a o kvs) H'):hW K a H R:=by unfold hW;exact .inr (.inr (.inl ⟨kvs,s.at,λo=>h o _ (s.set rfl)⟩))
def CZ (e:H a=some (.aH o (.dK kvs)))(h:R (yR a o kvs) H):hW K a H R:=by unfold hW;exact .inr (.inr (.inr ⟨o,kvs,e,h⟩))
def wz {G:Gx}{zs:List Str}(e:H a=some (.lst (zs.map V.str)))(hw:(zs.map (·.length)).sum+zs.length<=1000000)(hz:z.length<=16)(q:Q (.str (Txt.join z zs)) H):CF K .join z (.ref a) H Q:=by unfold CF rJoin;exact⟨z,a,zs,rfl,rfl,aF.of e,hw,hz,q⟩
def ET {c:Nat}{i:Int}(hz:z.length<=100000)(hv:gX z.cps.toList i=some c)(q:Q (.str ⟨#[c]⟩) H):pH K (.str z) (.int i) H Q:=by unfold pH;exact⟨i,c,rfl,hz,hv,q⟩
def uy (e:H a=some (.aH o (.dK kvs)))(hv:a8 kvs k=some v)(q:Q v H):pH K (.ref a) (kV k) H Q:=by unfold pH;exact .inr ⟨v,.inl ⟨kvs,k,.inr ⟨o,e⟩,rfl,hv.symm⟩,q⟩
def qi {D:Ends}{F:(St->Hp->Prop)->V->St->Hp->Prop}{U:St}(I:Nat->St->Hp->Prop)(h0:I 0 U H)(hl:∀ j U H,I j U H->H a=some (.aH o (.dK kvs)))
  (hs:∀ j kv U H,kvs[j]? =some kv->I j U H->F (I (j+1)) (kV kv.1) U H) (hd:∀ U H,I kvs.length U H->D.nx U H):ji (yR a o kvs) D F U H:=by
 unfold ji;refine⟨λi m U H=>m=kvs.length-i/\i<=kvs.length/\I i U H,⟨kvs.length,by simp,Nat.zero_le _,h0⟩,λi m U H ⟨e,hi',h⟩=>?_⟩
 by_cases hlt:i<kvs.length
 .refine .inr ⟨⟨hlt,hl i U H h⟩,I (i+1),λσ' H' h'=>⟨kvs.length-(i+1),by omega,rfl,hlt,h'⟩,λx H' y=>?_⟩;obtain⟨rfl,kv,hy,rfl⟩:=y;exact hs i kv U H' hy h
 .have:i=kvs.length:=by omega
  subst this;exact .inl ⟨⟨pi _,hl _ U H h⟩,hd U H h⟩
def AJ (hn:z.cps.size<=1000)(I:Addr->List V->Hp->Prop)(h0:∀ D,H D=none->I D [] (upd H D (.lst [])))
  (hs:∀ D ys c H',z.cps[ys.length]? =some c->I D ys H'->te (some (.str ⟨#[c]⟩)::rest) H' (jL I D ys rest (some (.str ⟨#[c]⟩))))
  (hd:∀ D ys H',ys.length=z.cps.size->I D ys H'->Q (.ref D) H'):qQ te (yE z) (none::rest) H Q:=by
 unfold qQ;intro D hD;refine⟨λi m σ' H'=>m=z.cps.size-i/\i<=z.cps.size/\∃ ys x0,σ'=x0::rest/\ys.length=i/\I D ys H',⟨z.cps.size,by simp,Nat.zero_le _,[],none,rfl,rfl,h0 D hD⟩,λi m σ' H' ⟨e,hi,ys,x0,e1,e2,h⟩=>?_⟩;subst e1 e2
 by_cases hlt:ys.length<z.cps.size
 .refine .inr ⟨hlt,λσ2 H2=>∃ ys2 x2,σ2=x2::rest/\ys2.length=ys.length+1/\I D ys2 H2,λσ2 H2 ⟨ys2,x2,f1,f2,f3⟩=>⟨z.cps.size-(ys.length+1),by omega,rfl,hlt,ys2,x2,f1,f2,f3⟩,λx H'' y=>?_⟩;obtain⟨e1,c,hc,rfl⟩:=y;subst e1;have w:=hs D ys c H'' hc h;unfold jL at w;exact w
 .have:ys.length=z.cps.size:=by omega
  exact .inl ⟨Nat.le_of_eq this.symm,hd D ys H' this h⟩
end
end L3
namespace L3
open PySem PySem.Spec PySem.W L2
variable {ps:List Str}
def ux:∀ {us:List Value}{n:Str},us.length=ps.length->n ∈ ps->((ps.zip us).lookup n).isNone=false:=by
 induction ps with
 |nil=>intro us n _ h;cases h
 |cons p ps ih=>
  intro us n hl h;cases us with
  |nil=>cases hl
  |cons u us=>
   rw[zip_cons_cons,lookup_cons];cases e:n ==p with
   |true=>rfl
   |false=>
    rcases lv.mp h with rfl|h
    .rw[beq_self_eq_true]at e;cases e
    .exact ih (Nat.succ.inj hl) h
def nY:∀ {ps:List Str}{us:List Value},ps.Nodup->us.length=ps.length->∀ {L:List (Str×Value)},(∀ n ∈ ps,L.lookup n=(ps.zip us).lookup n)->ps.filterMap (λn=>(L.lookup n).map (n,·))=ps.zip us
 | [],us,_,_,L,_=>rfl
 |p::ps,[],_,hl,L,_=>by cases hl
 |p::ps,u::us,nd,hl,L,hL=>by
  have h0:L.lookup p=some u:=by rw[hL p li,zip_cons_cons,lookup_cons,beq_self_eq_true]
  rw[filterMap_cons,h0,zip_cons_cons];show(p,u)::_=_;rw[nY (nodup_cons.mp nd).2 (Nat.succ.inj hl) (L:=L)];intro n hn;rw[hL n (dl _ hn),zip_cons_cons,lookup_cons];have:(n ==p)=false:=by
   cases e:n ==p with
   |false=>rfl
   |true=>
    have:=beq_iff_eq.mp e;subst this;exact absurd hn (nodup_cons.mp nd).1
  rw[this]
variable {fd:FuncData}
def mR (nd:ps.Nodup)(h1:fd.params.posonlyargs=[])(h2:fd.params.args.map (·.arg)=ps)(h3:fd.params.kwonlyargs=[])(h4:fd.params.vararg=none)(h5:fd.params.kwarg=none)(h6:fd.defaults=.none)(us:List Value)(hl:us.length=ps.length):
  bindArgs fd ⟨us,[]⟩=pure (ps.zip us):=by
 obtain⟨name,qual,⟨po,as,va,ko,kd,ka,df⟩,body,scope,glo,bX,dV,kV,doc,pm,an,cdv,ct,bu⟩:=fd;dsimp only at h1 h2 h3 h4 h5 h6;subst h1 h2 h3 h4 h5 h6;generalize hps:as.map (·.arg)=ps at nd hl⊢;have e1:seqItems? (Value.none)=(pure none:Sem (Option (Array Value))):=rfl;have e2:∀ f:Str->Bool,(∀ n ∈ ps,f n=false)->ps.filter f=[]:=λf h=>List.filter_eq_nil_iff.mpr λa ha=>by rw[h a ha];decide
 have e3:¬ (us.length>ps.length):=by omega
 have e4:=e2 (λn=>((ps.zip us).lookup n).isNone) λn hn=>ux hl hn
 have e5:=nY nd hl (L:=ps.zip us) λ_ _=>rfl
 unfold bindArgs;dsimp only[List.map_nil,nil_append,append_nil];rw[hps];simp[e1,e3,e4,e5]
abbrev gD (S:List (Str×Value))(x:Str×Value):List (Str×Value):=if(S.lookup x.1).isNone=true then S++[x] else S
def y0:∀ {L:List (Str×Value)}{S:List (Str×Value)},(∀ x ∈ L,(S.lookup x.1).isNone=false)->L.foldl gD S=S
 | [],_,_=>rfl
 |x::L,S,h=>by
  have h0:gD S x=S:=by
   unfold gD;rw[if_neg (by rw[h x li];decide)]
  rw[foldl_cons,h0];exact y0 λy hy=>h y (dl _ hy)
def yx:∀ {L:List (Str×Value)}{S:List (Str×Value)},(L.map (·.1)).Nodup->(∀ x ∈ L,S.lookup x.1=none)->L.foldl gD S=S++L
 | [],S,_,_=>by rw[append_nil];rfl
 |x::L,S,nd,h=>by
  have h0:gD S x=S++[x]:=by
   unfold gD;rw[if_pos (by rw[h x li];rfl)]
  rw[map_cons]at nd;rw[foldl_cons,h0,yx (nodup_cons.mp nd).2]
  .rw[le];rfl
  .intro y hy;have hne:(y.1 ==x.1)=false:=by
    cases e:y.1 ==x.1 with
    |false=>rfl
    |true=>
     have e:=beq_iff_eq.mp e;exact absurd (List.mem_map_of_mem (f:=(·.1)) hy) (e▸(nodup_cons.mp nd).1)
   obtain⟨a,b⟩:=x;rw[List.lookup_append,h y (dl _ hy),lookup_cons,hne]
   rfl
def yN {n:Str}:∀ {L:List (Str×Value)},(∀ x ∈ L,x.1≠n)->L.lookup n=none
 | [],_=>rfl
 |(a,b)::L,h=>by
  have:(n ==a)=false:=by
   cases e:n ==a with
   |false=>rfl
   |true=>exact absurd (beq_iff_eq.mp e).symm (h (a,b) li)
  rw[lookup_cons,this];exact yN λx hx=>h x (dl _ hx)
variable {A:List Str}{B:List Value}
def jX {x:Str×Value}(h:x ∈ A.zip B):x.1 ∈ A:=by
 obtain⟨a,b⟩:=x;exact(of_mem_zip h).1
def zip_map (h:A.length<=B.length):(A.zip B).map (·.1)=A:=List.map_fst_zip h
def kz {B:List Str}{us:List Value}(h:A.length=us.length):(A++B).zip us=A.zip us:=by
 have:=zip_append (l₁:=A) (l₂:=us) (r₁:=B) (r₂:=[]) h;rw[append_nil,List.zip_nil_right,append_nil]at this;exact this
def yg {B:List Str}{us D1 D2:List Value}(nd:(A++B).Nodup)(h1:A.length=us.length)(h2:B.length=D2.length)(h3:D1.length<=A.length):
  (((A++B).drop (A.length-D1.length)).zip (D1++D2)).foldl gD ((A++B).zip us)=(A++B).zip (us++D2):=by
 have a:=y0 (L:=(A.drop (A.length-D1.length)).zip D1) (S:=(A++B).zip us) λx hx=>by
  rw[kz h1];exact ux h1.symm (List.mem_of_mem_drop (jX hx))
 have b:=yx (L:=B.zip D2) (S:=(A++B).zip us) (by rw[zip_map nofun];exact(nodup_append.mp nd).2.1) λx hx=>by
  refine yN λy hy e=>?_
  rw[kz h1]at hy;exact(nodup_append.mp nd).2.2 y.1 (jX hy) x.1 (jX hx) e
 rw[List.drop_append_of_le_length nofun,zip_append (by rw[jp];omega),List.foldl_append,a,b,kz h1,zip_append h1]
def uW {us ds:List Value}(nd:ps.Nodup)(h1:us.length<=ps.length)(h2:ds.length<=ps.length)(h3:ps.length<=us.length+ds.length):
  ((ps.drop (ps.length-ds.length)).zip ds).foldl gD (ps.zip us)=ps.zip (us++ds.drop (us.length+ds.length-ps.length)):=by
 have nd2:(ps.take us.length++ps.drop us.length).Nodup:=by rw[take_append_drop];exact nd
 have:=yg (A:=ps.take us.length) (B:=ps.drop us.length) (us:=us) (D1:=ds.take (us.length+ds.length-ps.length)) (D2:=ds.drop (us.length+ds.length-ps.length)) nd2 (by rw[db];omega) (by rw[jp,jp];omega) (by rw[db,db];omega);rw[take_append_drop,take_append_drop,db,db]at this;rw[show min us.length ps.length-min (us.length+ds.length-ps.length) ds.length=ps.length-ds.length by omega]at this;exact this
def lD:∀ {L:List (Str×Value)}{S:List (Str×Value)},(forIn L S λx r=>(match x with|(name,d)=>if(r.lookup name).isNone=true then pure (ForInStep.yield (r++[(name,d)])) else pure (ForInStep.yield r):Sem (ForInStep (List (Str×Value)))))=pure (L.foldl gD S)
 | [],S=>by simp
 |(a,b)::L,S=>by
  rw[forIn_cons,foldl_cons,<-lD];unfold gD
  by_cases e:(S.lookup a).isNone=true
  .simp only[e,if_true,pure_bind]
  .simp only[e,if_false,pure_bind,Bool.false_eq_true]
def uo {T:Addr}{items:Array Value}(nd:ps.Nodup)(h1:fd.params.posonlyargs=[])(h2:fd.params.args.map (·.arg)=ps)(h3:fd.params.kwonlyargs=[])(h4:fd.params.vararg=none)(h5:fd.params.kwarg=none)(h6:fd.defaults=.ref T)(us:List Value)(l1:us.length<=ps.length)(l2:items.toList.length<=ps.length)(l3:ps.length<=us.length+items.toList.length):
  ∃ k:Option (Array Value)->Sem (List (Str×Value)),bindArgs fd ⟨us,[]⟩=seqItems? fd.defaults >>= k/\k (some items)=pure (ps.zip (us++items.toList.drop (us.length+items.toList.length-ps.length))):=by
 obtain⟨name,qual,⟨po,as,va,ko,kd,ka,df⟩,body,scope,glo,bX,dV,kV,doc,pm,an,cdv,ct,bu⟩:=fd;dsimp only at h1 h2 h3 h4 h5 h6;subst h1 h2 h3 h4 h5 h6;generalize hps:as.map (·.arg)=ps at nd l1 l2 l3⊢;have e2:∀ f:Str->Bool,(∀ n ∈ ps.take (ps.length-items.toList.length),f n=false)->(ps.take (ps.length-items.toList.length)).filter f=[]:=λf h=>List.filter_eq_nil_iff.mpr λa ha=>by rw[h a ha];decide
 have e3:¬ (us.length>ps.length):=by omega
 have ez:ps.zip us=(ps.take us.length).zip us:=by
  have:=kz (A:=ps.take us.length) (B:=ps.drop us.length) (us:=us) (by rw[db];omega);rw[take_append_drop]at this;exact this
 have e4:=e2 (λn=>((ps.zip us).lookup n).isNone) λn hn=>by
  rw[ez];refine ux (by rw[db];omega) ?_;have:ps.take (ps.length-items.toList.length)=(ps.take us.length).take (ps.length-items.toList.length):=by rw[List.take_take,Nat.min_eq_left nofun]
  rw[this]at hn;exact List.mem_of_mem_take hn
 have e6:=uW (us:=us) (ds:=items.toList) nd l1 l2 l3;have e5:=nY (us:=us++items.toList.drop (us.length+items.toList.length-ps.length)) nd (by rw[ci,jp];omega) λ_ _=>rfl
 have e7:items.toList.length-ps.length=0:=by omega
 unfold bindArgs;dsimp only[List.map_nil,nil_append,append_nil];rw[hps];refine⟨_,rfl,?_⟩;simp only[Option.getD_some,List.map_nil,nil_append,e7,drop_zero,e4,e3,List.isEmpty_nil,Bool.not_true,decide_false,Bool.false_and,Bool.false_eq_true,if_false,forIn_nil,append_nil];rw[lD,e6,pure_bind,pure_bind];simp only[e5,List.isEmpty_nil,Bool.not_true,Bool.false_eq_true,if_false]
abbrev yK (x:Option (Option Value))(a:Addr):Bool:=match x with
 |some (some (.ref b))=>b ==a
 |_=>false
variable {x:Option (Option Value)}
def d9 {a:Addr}(h:yK x a=true):x=some (some (.ref a)):=by
 unfold yK at h
 split at h
 .rw[beq_iff_eq.mp h]
 .cases h
abbrev qb (x:Option (Option Value))(a:String):Bool:=match x with
 |some (some (.builtin b))=>b ==a
 |_=>false
variable {a:String}
def bL (h:qb x a=true):x=some (some (.builtin a)):=by
 unfold qb at h
 split at h
 .rw[beq_iff_eq.mp h]
 .cases h
abbrev EC (x:Option Value)(a:String):Bool:=match x with
 |some (.type b)=>b ==a
 |_=>false
def BM {x:Option Value}(h:EC x a=true):x=some (.type a):=by
 unfold EC at h
 split at h
 .rw[beq_iff_eq.mp h]
 .cases h
abbrev vS (x:Option (Option Value)):Bool:=match x with
 |some none=>true
 |_=>false
def ku (h:vS x=true):x=some none:=by
 unfold vS at h
 split at h
 .rfl
 .cases h
abbrev wC (x:Option Bool)(b:Bool):Bool:=match x with
 |some c=>c ==b
 |none=>false
def dh {x:Option Bool}{b:Bool}(h:wC x b=true):x=some b:=by
 unfold wC at h
 split at h
 .rw[beq_iff_eq.mp h]
 .cases h
abbrev Eb (v:V)(x:Option (Option Value)):Bool:=match v,x with
 | .int i,some (some (.int j _))=>i ==j
 | .str s,some (some (.str s' _))=>s ==s'
 | .ref a,y=>yK y a
 |_,_=>false
def Bt {v:V}(h:Eb v x=true):∃ u,x=some (some u)/\RelV v u:=by
 unfold Eb at h
 split at h
 .rw[<-beq_iff_eq.mp h];exact⟨_,rfl,_,rfl⟩
 .rw[<-beq_iff_eq.mp h];exact⟨_,rfl,_,rfl⟩
 .rw[d9 h];exact⟨_,rfl,rfl⟩
 .cases h
section
variable (K:Frag) (C:Addr)
abbrev xY:Bool:=plainGet K C Str.empty&&(hasDictIn K C&&(plainOver K C&&qb (findIn K (.ref C) "__setattr__") "object.__setattr__"))
def pM {K:Frag}{C:Addr}(h:xY K C=true):xh K C:=by
 unfold xY at h;simp only[lw]at h;exact⟨h.1,h.2.1,h.2.2.1,bL h.2.2.2⟩
abbrev wm:Bool:=qb (findIn K (.ref C) "__class__") "object.__class__"&&(qb (specialIn K (.builtin "object.__class__") "__get__") "getset_descriptor.__get__"&&wC (takesIn K (.builtin "object.__class__")) true)
abbrev mF:Bool:=EC (typeIn K (.ref C)) "type"&&((clsIn K C).any (λcd=>cJ cd.mro)&&(hasDictIn K C&&(qb (findIn K (.ref C) "__getattribute__") "BaseException.__getattribute__"&&(vS (findIn K (.ref C) "__getattr__")&&qb (findIn K (.ref C) "__setattr__") "object.__setattr__"))))
def hU {K:Frag}{C:Addr}(h:mF K C=true):bR K C:=by
 unfold mF at h;simp only[lw]at h;exact⟨BM h.1,h.2.1,h.2.2.1,bL h.2.2.2.1,ku h.2.2.2.2.1,bL h.2.2.2.2.2⟩
end
abbrev all2 {α:Type}(l:List α)(p:α->Bool):Bool:=match l with
 | []=>true
 |a::r=>p a&&all2 r p
def ax {α:Type}{p:α->Bool}:∀ {l:List α},all2 l p=true->∀ a ∈ l,p a=true
 | [],_,_,h=>by cases h
 |a::r,h,b,hb=>by
  unfold all2 at h;rw[lw]at h;rcases lv.mp hb with rfl|hb
  .exact h.1
  .exact ax h.2 b hb
abbrev Aw (K:Frag)(fs cs:List Addr)(gs:List (Str×V)):Rt:=⟨K,λi=>fs.getD i 0,λi=>cs.getD i 0,λx=>gs.lookup x⟩
section
variable (K:Frag) (T:Tab) (fs cs:List Addr) (gs:List (Str×V))
abbrev wW:Bool:=
 (all2 T.gfn (λp=>yK (nsIn K mainGlobals p.1) (fs.getD p.2 0)&&(keepIn K (.ref (fs.getD p.2 0))&&(T.fns[p.2]?).isSome))&&
 (all2 T.gcl (λp=>yK (nsIn K mainGlobals p.1) (cs.getD p.2 0))&&
 (all2 T.gbl (λx=>vS (nsIn K mainGlobals x)&& !(x ==("__name__":Str)))&&
 (all2 T.gbi (λx=>match nsIn K mainGlobals x with
  |some (some (.ref B))=>qb (specialIn K (.ref B) "__getattribute__") "type.__getattribute__"&&(readsIn K B (.type "type")&&(match findCls K (.ref B) (.type "type") "__init__" with|some (.val (.builtin n))=>n =="ValueError.__init__"|_=>false))
  |_=>false)&&
 (all2 gs (λp=>Eb p.2 (nsIn K mainGlobals p.1))&&
 (all2 T.na (λp=>vS (findIn K (.ref (cs.getD p.1 0)) p.2))&&
 (all2 T.me (λp=>xY K (cs.getD p.1.1 0)&&(yK (findIn K (.ref (cs.getD p.1.1 0)) p.1.2) (fs.getD p.2 0)&&(isFn K (.ref (fs.getD p.2 0))&&(keepIn K (.ref (fs.getD p.2 0))&&(T.fns[p.2]?).isSome)))))))))))&&
 (all2 T.ini0 (λc=>bC K (cs.getD c 0)&&(qb (findIn K (.ref (cs.getD c 0)) "__init__") "ValueError.__init__"&&(keepIn K (.ref (cs.getD c 0))&&mF K (cs.getD c 0))))&&
 (all2 T.inip (λc=>makesIn K (cs.getD c 0)&&(qb (findIn K (.ref (cs.getD c 0)) "__init__") "object.__init__"&&keepIn K (.ref (cs.getD c 0))))&&
 (all2 T.ini (λp=>(T.fns[p.2]?).isSome&&((if T.xc.contains p.1=true then bC K (cs.getD p.1 0) else makesIn K (cs.getD p.1 0))&&(yK (findIn K (.ref (cs.getD p.1 0)) "__init__") (fs.getD p.2 0)&&(isFn K (.ref (fs.getD p.2 0))&&keepIn K (.ref (cs.getD p.1 0))))))&&
 (all2 T.oc (λc=>xY K (cs.getD c 0)&&(wm K (cs.getD c 0)&&wC (mroIn K (cs.getD c 0) (.type "object")) true))&&
 (all2 T.xc (λc=>mF K (cs.getD c 0)&&wm K (cs.getD c 0))&&
 (all2 T.sub (λp=>wC (kitOne K (.ref (cs.getD p.1.1 0)) (.ref (cs.getD p.1.2 0))) p.2&&(!T.xc.contains p.1.1||(wC (mroIn K (cs.getD p.1.1 0) (.ref (cs.getD p.1.2 0))) p.2&&mF K (cs.getD p.1.2 0))))&&
 (all2 T.subT (λp=>wC (kitOne K (.ref (cs.getD p.1.1 0)) (.type p.1.2)) p.2)&&
 (all2 T.subB (λp=>wC (kitOne K (.type p.1.1) (.type p.1.2)) p.2)&&
 (all2 T.subO (λp=>wC (kitOne K (.type p.1.1) (.ref (cs.getD p.1.2 0))) p.2)&&
  all2 T.cin (λp=>qb (specialIn K (.ref (cs.getD p.1 0)) "__getattribute__") "type.__getattribute__"&&(readsIn K (cs.getD p.1 0) (.type "type")&&((match findCls K (.ref (cs.getD p.1 0)) (.type "type") "__init__" with|some (.val (.ref f))=>f ==fs.getD p.2 0|_=>false)&&(keepIn K (.ref (fs.getD p.2 0))&&(T.fns[p.2]?).isSome)))))))))))))
end
def gY {α:Type}{x:Option α}(h:x.isSome=true):∃ d,x=some d:=Option.isSome_iff_exists.mp h
variable {K:Frag}{T:Tab}{fs:List Addr}{gs:List (Str×V)}{mg:GF}
def xk {cs:List Addr}{h:Heap}(X:K.In h)(G:h.Ns mainGlobals mg)(z:wW K T fs cs gs=true):wL K mg T (Aw K fs cs gs):=by
 unfold wW at z;simp only[lw]at z;obtain⟨⟨z1,z2,z3,z4,z5,z6,z7⟩,z8,z9,z10,z11,z12,z13,z14,z15,z16,z17⟩:=z;exact {
  gfn:=iQ λp hp=>by
   have:=ax z1 p hp;simp only[lw]at this;exact⟨mg_of X G (d9 this.1),this.2.1,gY this.2.2⟩
  gcl:=iQ λp hp=>mg_of X G (d9 (ax z2 p hp))
  gbl:=fR λx hx=>by
   have:=ax z3 x hx;simp only[lw]at this;exact⟨mg_none_of X G (ku this.1),by simpa using this.2⟩
  gbi:=fR λx hx=>by
   have:=ax z4 x hx
   split at this
   .rename_i B e;simp only[lw]at this;refine⟨B,mg_of X G e,bL this.1,this.2.1,?_⟩;have t:=this.2.2
    split at t
    .rename_i n e2;rw[e2,beq_iff_eq.mp t]
    .cases t
   .cases this
  gl:=iQ λp hp=>by
   obtain⟨u,e,r⟩:=Bt (ax z5 p hp);exact⟨u,mg_of X G e,r⟩
  na:=xZ λp hp=>ku (ax z6 p hp)
  me:=eK λp hp=>by
   have:=ax z7 p hp;simp only[lw]at this;exact⟨pM this.1,⟨d9 this.2.1,this.2.2.1,this.2.2.2.1⟩,gY this.2.2.2.2⟩
  ini0:=fR λc hc=>by
   have:=ax z8 c hc;simp only[lw]at this;exact⟨this.1,bL this.2.1,this.2.2.1,hU this.2.2.2⟩
  inip:=fR λc hc=>by
   have:=ax z9 c hc;simp only[lw]at this;exact⟨this.1,bL this.2.1,this.2.2⟩
  ini:=iQ λp hp=>by
   have:=ax z10 p hp;simp only[lw]at this;refine⟨gY this.1,?_⟩;have t:=this.2
   by_cases e:T.xc.contains p.1=true
   .rw[if_pos e]at t⊢;exact⟨t.1,d9 t.2.1,t.2.2.1,t.2.2.2⟩
   .rw[if_neg e]at t⊢;exact⟨t.1,d9 t.2.1,t.2.2.1,t.2.2.2⟩
  oc:=fR λc hc=>by
   have:=ax z11 c hc;simp only[wm,lw]at this;exact⟨pM this.1,bL this.2.1.1,bL this.2.1.2.1,dh this.2.1.2.2,dh this.2.2⟩
  xc:=fR λc hc=>by
   have:=ax z12 c hc;simp only[wm,lw]at this;exact⟨hU this.1,bL this.2.1,bL this.2.2.1,dh this.2.2.2⟩
  sub:=eK λp hp=>by
   have:=ax z13 p hp;simp only[lw]at this;refine⟨dh this.1,λe=>?_⟩;have t:=this.2;rw[e,Bool.not_true,Bool.false_or,lw]at t;exact⟨dh t.1,hU t.2⟩
  subT:=eK λp hp=>dh (ax z14 p hp)
  subB:=eK λp hp=>dh (ax z15 p hp)
  subO:=eK λp hp=>dh (ax z16 p hp)
  cin:=iQ λp hp=>by
   have:=ax z17 p hp;simp only[lw]at this;refine⟨⟨bL this.1,this.2.1,?_,this.2.2.2.1⟩,gY this.2.2.2.2⟩;have t:=this.2.2.1
   split at t
   .rename_i f e2;rw[beq_iff_eq.mp t]at e2;exact e2
   .cases t }
abbrev D3:List Str->Bool
 | []=>true
 |a::r=>!r.contains a&&D3 r
def t4:∀ {l:List Str},D3 l=true->l.Nodup
 | [],_=>List.nodup_nil
 |a::r,h=>by
  unfold D3 at h;rw[lw]at h;exact nodup_cons.mpr ⟨by simpa using h.1,t4 h.2⟩
abbrev Ej (N P:List Str)(sc:Scope):Bool:=decide (sc.kind=.function)&&(!sc.isCoroutine&&(!sc.isGenerator&&(D3 N&&(N.take P.length ==P&&(all2 P (λx=>match sc.names.lookup x with|some .local=>true|some .cell=>true|_=>false)&&all2 sc.names (λy=>match y.2 with| .free=>false|_=>true))))))
def ou {N P:List Str}{sc:Scope}(h:Ej N P sc=true):gR N P sc:=by
 unfold Ej at h;simp only[lw,decide_eq_true_eq]at h;refine⟨h.1,by simpa using h.2.1,by simpa using h.2.2.1,t4 h.2.2.2.1,beq_iff_eq.mp h.2.2.2.2.1,λx hx=>?_,λy hy e=>?_⟩
 .have:=ax h.2.2.2.2.2.1 x hx
  split at this
  .rename_i e;exact .inl e
  .rename_i e;exact .inr e
  .cases this
 .have:=ax h.2.2.2.2.2.2 y hy;rw[e]at this;cases this
abbrev D8:V->Value->Bool
 | .non,.none=>true
 | .bl b,.bool c=>b ==c
 | .int i,.int j _=>i ==j
 | .str s,.str s' _=>s ==s'
 |_,_=>false
def Bz {v:V}{u:Value}(h:D8 v u=true):RelV v u:=by
 unfold D8 at h
 split at h
 .rfl
 .rw[beq_iff_eq.mp h];rfl
 .rw[beq_iff_eq.mp h];exact⟨_,rfl⟩
 .rw[beq_iff_eq.mp h];exact⟨_,rfl⟩
 .cases h
abbrev vA:List V->List Value->Bool
 | [],[]=>true
 |v::vs,u::us=>D8 v u&&vA vs us
 |_,_=>false
def ke:∀ {vs:List V}{us:List Value},vA vs us=true->Vals vs us
 | [],[],_=>.nil
 |v::vs,u::us,h=>by
  unfold vA at h;rw[lw]at h;exact .cons (Bz h.1) (ke h.2)
 | [],_::_,h=>by cases h
 |_::_,[],h=>by cases h
abbrev EE (K:Frag)(fd:FuncData)(d:aE):Bool:=match fd.defaults with
 | .none=>d.dfl.isEmpty
 | .ref T=>!d.dfl.isEmpty&&(match K.lookup T with
  |some o=>(match o.data with| .seq items _=>vA d.dfl items.toList&&decide (items.toList.length<=d.ps.length)|_=>false)
  |none=>false)
 |_=>false
abbrev yL (K:Frag)(T:Tab)(f:Addr)(d:aE):Bool:=match K.lookup f with
 |some ⟨_,_,.func fd,_⟩=>(match fd.body with
  | .stmts body=>decide (fd.globals=mainGlobals)&&(fd.closure.isEmpty&&(decide (fd.builtins=builtinsNs)&&(codeIn K fd.code fd.qualname&&(Ej d.N d.ps fd.scope&&(mB ⟨T,fd.scope,d.N⟩ d.body body&&
   (fd.params.posonlyargs.isEmpty&&(fd.params.args.map (·.arg) ==d.ps&&(fd.params.kwonlyargs.isEmpty&&(fd.params.vararg.isNone&&(fd.params.kwarg.isNone&&EE K fd d))))))))))
  |_=>false)
 |_=>false
variable {d:aE}
def AV {f:Addr}(h:yL K T f d=true):rE K T f d:=by
 unfold yL at h
 split at h
 .rename_i oc od fd sl e;obtain⟨name,qual,params,body,scope,glo,bX,dV,kV,doc,pm,an,cdv,ct,bu⟩:=fd;dsimp only at h
  split at h
  .rename_i body;simp only[lw,decide_eq_true_eq,isEmpty_iff,Option.isNone_iff_eq_none]at h;obtain⟨h1,h2,h3,h4,h5,h6,h7,h8,h9,h10,h11,h12⟩:=h;subst h1 h2 h3;have S:=ou h5;have nd:d.ps.Nodup:=by
    rw[<-S.pre];exact S.nd.sublist (take_sublist _ _)
   refine⟨⟨name,qual,params,body,scope,dV,kV,doc,pm,cdv,ct,oc,od,an,sl,e,h4,S,h6,?_⟩⟩;unfold EE at h12;dsimp only at h12
   split at h12
   .rw[isEmpty_iff.mp h12];exact zZ (.all λus hl=>mR nd h7 (beq_iff_eq.mp h8) h9 h10 h11 rfl us hl)
   .rename_i T0;rw[lw]at h12;have h12:=h12.2
    split at h12
    .rename_i o ho
     split at h12
     .rename_i items c hs;rw[lw,decide_eq_true_eq]at h12;intro j;refine⟨items.toList.drop j,?_,jm j (ke h12.1)⟩;refine yd (n:=d.ps.length-(items.toList.drop j).length) rfl ho hs (by rw[jp];omega) λus hl=>?_
      rw[jp]at hl;obtain⟨k,k1,k2⟩:=uo (fd:=fnOf name qual params body scope (.ref T0) kV doc pm an cdv ct) (items:=items) nd h7 (beq_iff_eq.mp h8) h9 h10 h11 rfl us nofun h12.2 nofun;refine⟨k,k1,?_⟩;rw[k2]
      by_cases e:j<=items.toList.length
      .rw[show us.length+items.toList.length-d.ps.length=j by omega]
      .rw[show us.length+items.toList.length-d.ps.length=items.toList.length by omega,List.drop_length,List.drop_eq_nil_of_le (by omega:items.toList.length<=j)]
     .cases h12
    .cases h12
   .cases h12
  .cases h
 .cases h
abbrev jh (K:Frag)(T:Tab)(fs:List Addr):Nat->List aE->Bool
 |_,[]=>true
 |n,d::r=>yL K T (fs.getD n 0) d&&jh K T fs (n+1) r
def qj {K:Frag}{T:Tab}{fs:List Addr}:∀ {l:List aE}{n:Nat},jh K T fs n l=true->pI (λf d=>rE K T (fs.getD f 0) d) n l
 | [],_,_=>True.intro
 |d::r,n,h=>by
  unfold jh at h;rw[lw]at h;exact⟨AV h.1,qj h.2⟩
def wQ (h:jh K T fs 0 T.fns=true):∀ f d,T.fns[f]? =some d->rE K T (fs.getD f 0) d:=nN (P:=λf d=>rE K T (fs.getD f 0) d) (qj h)
def qh {K:Frag}{T:Tab}{fs:List Addr}:∀ {l:List aE}{n f:Nat}{d:aE},jh K T fs n l=true->l[f]? =some d->yL K T (fs.getD (n+f) 0) d=true
 | [],_,_,_,_,e=>by simp at e
 |a::r,n,0,d,h,e=>by
  unfold jh at h;rw[lw]at h;have:a=d:=by simpa using e
  subst this;exact h.1
 |a::r,n,f+1,d,h,e=>by
  unfold jh at h;rw[lw]at h;have:=qh h.2 (f:=f) (d:=d) (by simpa using e)
  rwa [Nat.add_assoc,Nat.add_comm 1 f]at this
def yo {fl:Nat}(z:jh K T fs 0 T.fns=true)(hd:T.fns[fl]? =some d)(hp:d.ps=[("_law_script":Str)]) (hf:d.dfl=[]):
  ∃ oc od fd sl,K.lookup (fs.getD fl 0)=some ⟨oc,od,.func fd,sl⟩/\∀ (s:Shared) (v:Value),BindsTo s fd ⟨[v],[]⟩ [("_law_script",v)]:=by
 have h:=qh z hd;rw[Nat.zero_add]at h;unfold yL at h
 split at h
 .rename_i oc od fd sl e;refine⟨oc,od,fd,sl,e,λs v=>?_⟩
  split at h
  .rename_i body hb;simp only[lw,decide_eq_true_eq,isEmpty_iff,Option.isNone_iff_eq_none]at h;obtain⟨h1,h2,h3,h4,h5,h6,h7,h8,h9,h10,h11,h12⟩:=h;have nd:d.ps.Nodup:=by
    rw[<-(ou h5).pre];exact(ou h5).nd.sublist (take_sublist _ _)
   unfold EE at h12;rw[hf]at h12;have e6:fd.defaults=.none:=by
    split at h12
    .rename_i e;exact e
    .rw[lw]at h12;cases h12.1
    .cases h12
   have:=mR nd h7 (beq_iff_eq.mp h8) h9 h10 h11 e6 [v] (by rw[hp];rfl);rw[hp]at this;exact .of_eq this
  .cases h
 .cases h
def xH {P:Program}{w:World}{h:Heap}{fa:Addr}{cs:List Addr}{fl k:Nat}(X:K.In h)(G:h.Ns mainGlobals mg)(hfa:mg "law"=some (.ref fa))
  (z1:wW K T fs cs gs=true) (z2:jh K T fs 0 T.fns=true) (z3:yK (nsIn K mainGlobals "law") (fs.getD fl 0)=true) (hd:T.fns[fl]? =some d) (hp:d.ps=[("_law_script":Str)]) (hf:d.dfl=[])
  (ht:∀ vs H Q E,gm K 63 vs H Q E->ae T (Aw K fs cs gs) k fl vs H Q E):
  ∃ fd:FuncData,(∀ (s:Shared) (v:Value),BindsTo s fd ⟨[v],[]⟩ [("_law_script",v)])/\∀ base:Heap,K.In base->base.Ns mainGlobals mg->cC P w K mg base (sC P w) (2*k) fa fd ["_law_script"] (gm K 63):=by
 have e0:fs.getD fl 0=fa:=by
  have e:=hfa.symm.trans (mg_of X G (d9 z3))
  injection e with e
  injection e with e
  exact e.symm
 have fn:=wQ z2;have tk:=xk X G z1;have N:=fn fl d hd;have hN:=yo z2 hd;obtain⟨oc,od,fd,sl,e,hb⟩:=hN hp hf;refine⟨fd,hb,λbase hb hg=>?_⟩;have F:=BP (P:=P) (w:=w) (base:=base) (R:=Aw K fs cs gs) tk rfl fn k fl d hd (fd:=fd) (lk:=e) (mC▸ht);rw[hp]at F;rw[<-e0];exact F
abbrev FE (K:Frag)(a:Addr)(vs:List V):Bool:=match K.lookup a with
 |some ⟨.type t,_,.seq items _,_⟩=>t =="tuple"&&(decide (items.size<=1000)&&vA vs items.toList)
 |_=>false
def Ad {a:Addr}{vs:List V}(h:FE K a vs=true)(H:Hp):bF K H a vs:=by
 unfold FE at h
 split at h
 .rename_i t od items n sl e;simp only[lw,decide_eq_true_eq]at h;refine .inr ⟨_,items,n,e,?_,rfl,?_,ke h.2.2⟩
  .show Value.type t=_;rw[beq_iff_eq.mp h.1]
  .exact Nat.le_of_lt (bI h.2.1)
 .cases h
end L3
namespace L3
open PySem L2
noncomputable abbrev eu.c (e:Ex)(r:eu):eu:=.cons e r
noncomputable abbrev eu.n:eu:=.nil
noncomputable abbrev iO.c (e:Sx)(r:iO):iO:=.cons e r
noncomputable abbrev iO.n:iO:=.nil
noncomputable abbrev vW.c (a b:Nat)(e:iO)(r:vW):vW:=.cons a b e r
noncomputable abbrev vW.n:vW:=.nil
noncomputable abbrev Ex.i (x:Int):Ex:=.int x
noncomputable abbrev Ex.s (x:Str):Ex:=.str x
noncomputable abbrev Ex.k (x:Nat)(e:eu):Ex:=.call x e
noncomputable abbrev Ex.m (a:Ex)(x:Str)(e:eu):Ex:=.meth a x e
noncomputable abbrev Ex.f (c:Tx)(a b:Ex):Ex:=.ife c a b
noncomputable abbrev Ex.q (o:CmpOp)(a b:Ex):Ex:=.cmp o a b
noncomputable abbrev Tx.q (o:CmpOp)(a b:Ex):Tx:=.cmp o a b
noncomputable abbrev Sx.a (x:Nat)(e:Ex):Sx:=.asg x e
noncomputable abbrev Sx.r (e:Ex):Sx:=.ret e
noncomputable abbrev Sx.f (c:Tx)(a b:iO):Sx:=.ife c a b
noncomputable abbrev Sx.e (e:Ex):Sx:=.expr e
end L3
set_option Elab.async false
set_option maxHeartbeats 8000000
open PySem PySem.Spec L2 L3
namespace My
open PySem L2 L3
set_option hygiene false
local macro_rules|`(#[])=>`(.n)|`(#[$x:term])=>`(.c $x .n)|`(#[$x:term,$xs:term,*])=>`(.c $x #[$xs,*])
set_option hygiene true
abbrev eE:aE:=⟨["self","word"],["self","word"],[],#[.e (.bini #[.v 0,.s "a deed can't be made of this"]),.fld (.v 0) "word" (.v 1)]⟩
abbrev eX:aE:=⟨["self","word"],["self","word"],[],#[.e (.bini #[.v 0,.s "no name, or a name that is taken or unknown"]),.fld (.v 0) "word" (.v 1)]⟩
abbrev bY:aE:=⟨["self","many"],["self","many"],[],#[.e (.bini #[.v 0,.s "none or too many deeds, laid flat"]),.fld (.v 0) "many" (.v 1)]⟩
abbrev hX:aE:=⟨["thing"],["thing"],[],#[.r (.and (.isi (.v 0) (.ty "int")) (.not (.isi (.v 0) (.ty "bool"))))]⟩
abbrev ma:aE:=⟨["thing"],["thing"],[],#[.r (.and (.isi (.v 0) (.ty "str")) (.q .In (.v 0) (.gl "NAMES")))]⟩
abbrev gi:aE:=⟨["thing"],["thing"],[],#[.r (.and (.k 3 #[.v 0]) (.cmp2 .LtE .LtE (.neg (.gl "BOUND")) (.v 0) (.gl "BOUND")))]⟩
abbrev gG:aE:=⟨["word","box"],["word","box"],[],#[.f (.not (.val (.k 4 #[.v 1]))) #[.rais (.make 1 #[.v 0])] .n]⟩
abbrev di:aE:=⟨["word","number"],["word","number"],[],#[.f (.not (.val (.k 5 #[.v 1]))) #[.rais (.make 1 #[.v 0])] .n]⟩
abbrev dr:aE:=⟨["self","box","number"],["self","box","number"],[],#[.e (.k 6 #[.s "set",.v 1]),.e (.k 7 #[.s "set",.v 2]),.fld (.v 0) "box" (.v 1),.fld (.v 0) "number" (.v 2)]⟩
abbrev f9:aE:=⟨["self"],["self"],[],#[.r (.lst #[.s "set",.fld (.v 0) "box",.bf .str #[.fld (.v 0) "number"]])]⟩
abbrev c4:aE:=⟨["self","box","number"],["self","box","number"],[],#[.e (.k 6 #[.s "add",.v 1]),.e (.k 7 #[.s "add",.v 2]),.fld (.v 0) "box" (.v 1),.fld (.v 0) "number" (.v 2)]⟩
abbrev gA:aE:=⟨["self"],["self"],[],#[.r (.lst #[.s "add",.fld (.v 0) "box",.bf .str #[.fld (.v 0) "number"]])]⟩
abbrev cM:aE:=⟨["self","box","other"],["self","box","other"],[],#[.e (.k 6 #[.s "take",.v 1]),.e (.k 6 #[.s "take",.v 2]),.fld (.v 0) "box" (.v 1),.fld (.v 0) "other" (.v 2)]⟩
abbrev fv:aE:=⟨["self"],["self"],[],#[.r (.lst #[.s "take",.fld (.v 0) "box",.fld (.v 0) "other"])]⟩
abbrev cK:aE:=⟨["self","box"],["self","box"],[],#[.e (.k 6 #[.s "read",.v 1]),.fld (.v 0) "box" (.v 1)]⟩
abbrev fA:aE:=⟨["self"],["self"],[],#[.r (.lst #[.s "read",.fld (.v 0) "box"])]⟩
abbrev cA:aE:=⟨["self","box"],["self","box"],[],#[.e (.k 6 #[.s "write",.v 1]),.fld (.v 0) "box" (.v 1)]⟩
abbrev dP:aE:=⟨["self"],["self"],[],#[.r (.lst #[.s "write",.fld (.v 0) "box"])]⟩
abbrev jH:aE:=⟨["thing"],["thing"],[],#[.r (.and (.k 3 #[.v 0]) (.cmp2 .LtE .LtE (.i 0) (.v 0) (.gl "MOST_HOPPED")))]⟩
abbrev qd:aE:=⟨["thing"],["thing"],[],#[.r (.or (.q .Is (.v 0) .non) (.and (.k 3 #[.v 0]) (.or (.q .Eq (.v 0) (.i 0)) (.q .Eq (.v 0) (.i 1)))))]⟩
abbrev cT:aE:=⟨["self","many","on"],["self","many","on"],[.non],#[.f (.or (.not (.val (.k 18 #[.v 1]))) (.not (.val (.k 19 #[.v 2])))) #[.rais (.make 1 #[.s "hop"])] .n,.fld (.v 0) "many" (.v 1),.fld (.v 0) "on" (.v 2)]⟩
abbrev gj:aE:=⟨["self"],["self","told"],[],#[.a 1 (.lst #[.s "hop",.bf .str #[.fld (.v 0) "many"]]),.f (.q .IsNot (.fld (.v 0) "on") .non) #[.e (.lm .extend (.v 1) #[.lst #[.s "if",.bf .str #[.fld (.v 0) "on"]]])] .n,.r (.v 1)]⟩
abbrev dU:aE:=⟨["self","name"],["self","name"],[],#[.fld (.v 0) "called" (.v 1)]⟩
abbrev qJ:aE:=⟨["self"],["self"],[],#[.r (.tup #[.s "do",.fld (.v 0) "called"])]⟩
abbrev cz:aE:=⟨["self","many","block"],["self","many","block"],[],#[.fld (.v 0) "many" (.v 1),.fld (.v 0) "block" (.bf .list #[.v 2])]⟩
abbrev k4:aE:=⟨["self"],["self"],[],#[.r (.tup #[.s "times",.fld (.v 0) "many",.bf .list #[.fld (.v 0) "block"]])]⟩
abbrev bE:aE:=⟨["self","on","block","other"],["self","on","block","other"],[.non],#[.fld (.v 0) "on" (.v 1),.fld (.v 0) "block" (.bf .list #[.v 2]),.fld (.v 0) "other" (.f (.q .Is (.v 3) .non) (.lst .n) (.bf .list #[.v 3]))]⟩
abbrev mP:aE:=⟨["self"],["self"],[],#[.r (.tup #[.s "when",.fld (.v 0) "on",.bf .list #[.fld (.v 0) "block"],.bf .list #[.fld (.v 0) "other"]])]⟩
abbrev jG:aE:=⟨["thing"],["thing"],[],#[.f (.or (.not (.val (.isi (.v 0) (.ty "str")))) (.not (.cmp2 .LtE .LtE (.i 1) (.bf .len #[.v 0]) (.gl "LONGEST_NAME")))) #[.r (.bl false)] .n,.r (.bf .all #[.lc (.q .In (.v 0) (.gl "LETTERS")) [] (.seq (.v 0))])]⟩
abbrev dS:aE:=⟨["book","block"],["book","block","item"],[],#[.for (.nm 2) (.seq (.v 1)) #[.f (.and (.val (.isi (.v 2) (.own 11))) (.not (.val (.m (.v 0) "has" #[.fld (.v 2) "called"])))) #[.rais (.make 2 #[.fld (.v 2) "called"])] .n,.f (.val (.isiT (.v 2) [12,13])) #[.e (.k 29 #[.v 0,.fld (.v 2) "block"])] .n,.f (.val (.isi (.v 2) (.own 13))) #[.e (.k 29 #[.v 0,.fld (.v 2) "other"])] .n]]⟩
abbrev e9:aE:=⟨["book","item"],["book","item"],[],#[.f (.val (.isi (.v 1) (.own 11))) #[.r (.m (.v 0) "count_named" #[.fld (.v 1) "called"])] .n,.f (.val (.isi (.v 1) (.own 12))) #[.r (.bin .Mult (.fld (.v 1) "many") (.k 32 #[.v 0,.fld (.v 1) "block"]))] .n,.f (.val (.isi (.v 1) (.own 13))) #[.r (.k 31 #[.v 0,.v 1])] .n,.r (.i 1)]⟩
abbrev eG:aE:=⟨["book","when"],["book","when","many"],[],#[.a 2 (.bin .Add (.i 1) (.k 32 #[.v 0,.fld (.v 1) "block"])),.f (.q .Eq (.bf .len #[.fld (.v 1) "other"]) (.i 0)) #[.r (.v 2)] .n,.r (.bin .Add (.bin .Add (.v 2) (.i 1)) (.k 32 #[.v 0,.fld (.v 1) "other"]))]⟩
abbrev dI:aE:=⟨["book","block"],["book","block"],[],#[.r (.bf .sum #[.lc (.k 30 #[.v 1,.v 0]) [0] (.seq (.v 1))])]⟩
abbrev cN:aE:=⟨["self"],["self"],[],#[.fld (.v 0) "blocks" .dnew,.fld (.v 0) "counts" .dnew]⟩
abbrev iN:aE:=⟨["self","word"],["self","word"],[],#[.r (.q .In (.v 1) (.fld (.v 0) "blocks"))]⟩
abbrev gy:aE:=⟨["self","word","block"],["self","word","block"],[],#[.f (.or (.not (.val (.k 28 #[.v 1]))) (.val (.m (.v 0) "has" #[.v 1]))) #[.rais (.make 2 #[.v 1])] .n,.e (.k 29 #[.v 0,.v 2]),.sub (.fld (.v 0) "counts") (.v 1) (.k 32 #[.v 0,.v 2]),.sub (.fld (.v 0) "blocks") (.v 1) (.bf .list #[.v 2])]⟩
abbrev bK:aE:=⟨["self","word"],["self","word"],[],#[.r (.ix (.fld (.v 0) "blocks") (.v 1))]⟩
abbrev bQ:aE:=⟨["self","word"],["self","word"],[],#[.r (.ix (.fld (.v 0) "counts") (.v 1))]⟩
abbrev ic:aE:=⟨["book","block"],["book","block"],[],#[.e (.k 29 #[.v 0,.v 1]),.r (.k 32 #[.v 0,.v 1])]⟩
abbrev pO:aE:=⟨["head","pairs"],["head","pairs"],[],#[.r (.lct (.tup #[.bin .Add (.v 2) (.v 0),.v 1]) 2 [0] (.seq (.v 1)))]⟩
abbrev jv:aE:=⟨["book","place","do"],["book","place","do"],[],#[.f (.q .Eq (.m (.v 0) "count_named" #[.fld (.v 2) "called"]) (.i 0)) #[.r (.lst .n)] .n,.r (.k 39 #[.tup #[.v 1],.k 44 #[.v 0,.m (.v 0) "block_named" #[.fld (.v 2) "called"]]])]⟩
abbrev fu:aE:=⟨["book","place","times"],["book","place","times","once","pairs","turn"],[],#[.f (.q .Eq (.fld (.v 2) "many") (.i 0)) #[.r (.lst .n)] .n,.a 3 (.k 44 #[.v 0,.fld (.v 2) "block"]),.a 4 (.lst .n),.for (.nm 5) (.rng1 (.fld (.v 2) "many")) #[.e (.lm .extend (.v 4) #[.k 39 #[.tup #[.v 1,.v 5],.v 3]])],.r (.v 4)]⟩
abbrev gB:aE:=⟨["book","place","when"],["book","place","when","block","other","first","second"],[],#[.a 3 (.k 39 #[.tup #[.v 1,.i 0],.k 44 #[.v 0,.fld (.v 2) "block"]]),.f (.q .Eq (.bf .len #[.fld (.v 2) "other"]) (.i 0)) #[.r (.bin .Add (.lst #[.tup #[.tup #[.v 1],.make 10 #[.bf .len #[.v 3],.bin .Sub (.i 1) (.fld (.v 2) "on")]]]) (.v 3))] .n,.a 4 (.k 39 #[.tup #[.v 1,.i 1],.k 44 #[.v 0,.fld (.v 2) "other"]]),.a 5 (.tup #[.tup #[.v 1],.make 10 #[.bin .Add (.bf .len #[.v 3]) (.i 1),.bin .Sub (.i 1) (.fld (.v 2) "on")]]),.a 6 (.tup #[.tup #[.v 1,.i 2],.make 10 #[.bf .len #[.v 4]]]),.r (.bin .Add (.bin .Add (.bin .Add (.lst #[.v 5]) (.v 3)) (.lst #[.v 6])) (.v 4))]⟩
abbrev gh:aE:=⟨["book","place","item"],["book","place","item"],[],#[.f (.val (.isi (.v 2) (.own 11))) #[.r (.k 40 #[.v 0,.v 1,.v 2])] .n,.f (.val (.isi (.v 2) (.own 12))) #[.r (.k 41 #[.v 0,.v 1,.v 2])] .n,.f (.val (.isi (.v 2) (.own 13))) #[.r (.k 42 #[.v 0,.v 1,.v 2])] .n,.r (.lst #[.tup #[.tup #[.v 1],.v 2]])]⟩
abbrev vq:aE:=⟨["book","block"],["book","block","pairs","place","item"],[],#[.a 2 (.lst .n),.for (.tp [3,4]) (.enm (.v 1)) #[.e (.lm .extend (.v 2) #[.k 43 #[.v 0,.v 3,.v 4]])],.r (.v 2)]⟩
abbrev gu:aE:=⟨["book","block"],["book","block","many"],[],#[.a 2 (.k 38 #[.v 0,.v 1]),.f (.not (.cmp2 .LtE .LtE (.i 1) (.v 2) (.gl "MOST_ROWS"))) #[.rais (.make 3 #[.v 2])] .n,.r (.k 44 #[.v 0,.v 1])]⟩
abbrev uz:aE:=⟨["book","block"],["book","block"],[],#[.r (.lct (.v 1) 2 [] (.seq (.k 45 #[.v 0,.v 1])))]⟩
abbrev fB:aE:=⟨["self"],["self"],[],#[.r (.lst #[.s "copy"])]⟩
abbrev fq:aE:=⟨["self"],["self"],[],#[.r (.lst #[.s "fill"])]⟩
abbrev fM:aE:=⟨["self"],["self"],[],#[.r (.lst #[.s "seek"])]⟩
abbrev dN:aE:=⟨["self"],["self"],[],#[.r (.lst #[.s "match"])]⟩
abbrev dH:aE:=⟨["self"],["self"],[],#[.r (.lst #[.s "shift"])]⟩
abbrev eU:aE:=⟨["self"],["self"],[],#[.r (.lst #[.s "turn"])]⟩
abbrev gf:aE:=⟨["_law_script"],["_law_script","_law_cells","_law_fold","_law_cell"],[],#[.a 1 (.bf .list #[.sl (.v 0) .no (.yes (.i 63))]),.a 2 (.bf .len #[.v 1]),.for (.nm 3) (.seq (.v 1)) #[.a 2 (.bin .Mod (.bin .Add (.bin .Add (.bin .Mult (.v 2) (.i 48271)) (.bin .Mod (.v 3) (.i 2147483647))) (.i 1)) (.i 2147483629))],.r (.lst #[.v 1,.v 2,.i 0,.i 0,.i 0])]⟩
abbrev gI:aE:=⟨["_law_hand_here","_law_many"],["_law_hand_here","_law_many","_law_rest","_law_cell","_law_one","_law_two"],[],#[.augS (.v 0) (.i 4) .Add (.i 1),.a 2 (.ix (.v 0) (.i 3)),.a 3 (.ix (.v 0) (.i 1)),.f (.q .Gt (.v 2) (.i 0)) #[.sub (.v 0) (.i 3) (.bin .FloorDiv (.v 2) (.v 1)),.r (.bin .Mod (.v 2) (.v 1))] .n,.f (.q .Lt (.ix (.v 0) (.i 2)) (.bf .len #[.ix (.v 0) (.i 0)])) #[.a 3 (.ix (.ix (.v 0) (.i 0)) (.ix (.v 0) (.i 2))),.augS (.v 0) (.i 2) .Add (.i 1),.f (.q .GtE (.v 3) (.bin .Pow (.i 10) (.i 18))) #[.sub (.v 0) (.i 3) (.bin .FloorDiv (.v 3) (.v 1)),.r (.bin .Mod (.v 3) (.v 1))] .n] .n,.a 4 (.bin .Mod (.bin .Pow (.bin .Add (.bin .Mod (.v 3) (.i 998244353)) (.bin .Mult (.i 7919) (.ix (.v 0) (.i 4)))) (.i 5)) (.i 2147483647)),.a 5 (.bin .Mod (.bin .Pow (.bin .Add (.bin .Add (.v 4) (.bin .Mult (.i 104729) (.ix (.v 0) (.i 4)))) (.ix (.v 0) (.i 1))) (.i 3)) (.i 2147483629)),.r (.bin .Mod (.bin .FloorDiv (.v 5) (.i 7)) (.v 1))]⟩
abbrev gx:aE:=⟨["_law_hand_here","_law_size"],["_law_hand_here","_law_size","_law_way","_law_names","_law_box","_law_pick"],[],#[.a 2 (.k 54 #[.v 0,.i 14]),.a 3 (.lst #[.s "here",.s "there",.s "left",.s "way",.s "sign",.s "met"]),.a 4 (.ix (.v 3) (.k 54 #[.v 0,.i 6])),.f (.q .Lt (.v 2) (.i 6)) #[.r (.tup #[.ix (.lst #[.s "copy",.s "fill",.s "seek",.s "match",.s "shift",.s "turn"]) (.v 2)])] .n,.f (.q .Lt (.v 2) (.i 9)) #[.a 4 (.ix (.lst #[.s "here",.s "there",.s "left",.v 4]) (.k 54 #[.v 0,.i 4])),.a 5 (.bin .FloorDiv (.k 54 #[.v 0,.i 8]) (.i 3)),.r (.tup #[.s "set",.v 4,.ix (.lst #[.k 54 #[.v 0,.bin .Add (.v 1) (.i 1)],.bin .Sub (.k 54 #[.v 0,.i 5]) (.i 2),.bin .Sub (.bin .Pow (.i 10) (.i 9)) (.k 54 #[.v 0,.i 2])]) (.v 5)])] .n,.f (.q .Eq (.v 2) (.i 9)) #[.a 5 (.bin .FloorDiv (.k 54 #[.v 0,.i 7]) (.i 3)),.r (.tup #[.s "add",.v 4,.ix (.lst #[.bin .Sub (.k 54 #[.v 0,.i 7]) (.i 3),.k 54 #[.v 0,.bin .Add (.v 1) (.i 1)],.neg (.bin .Pow (.i 10) (.i 9))]) (.v 5)])] .n,.f (.q .Eq (.v 2) (.i 10)) #[.r (.tup #[.s "take",.v 4,.ix (.v 3) (.k 54 #[.v 0,.i 6])])] .n,.f (.q .Lt (.v 2) (.i 13)) #[.r (.tup #[.ix (.lst #[.s "read",.s "write"]) (.bin .Sub (.v 2) (.i 11)),.v 4])] .n,.r (.tup #[.s "hop",.k 54 #[.v 0,.i 4],.ix (.lst #[.non,.i 0,.i 1]) (.k 54 #[.v 0,.i 3])])]⟩
abbrev gg:aE:=⟨["_law_spec_here"],["_law_spec_here","_law_word"],[],#[.a 1 (.ix (.v 0) (.i 0)),.f (.q .Eq (.v 1) (.s "set")) #[.r (.make 5 #[.ix (.v 0) (.i 1),.ix (.v 0) (.i 2)])] .n,.f (.q .Eq (.v 1) (.s "add")) #[.r (.make 6 #[.ix (.v 0) (.i 1),.ix (.v 0) (.i 2)])] .n,.f (.q .Eq (.v 1) (.s "take")) #[.r (.make 7 #[.ix (.v 0) (.i 1),.ix (.v 0) (.i 2)])] .n,.f (.q .Eq (.v 1) (.s "read")) #[.r (.make 8 #[.ix (.v 0) (.i 1)])] .n,.f (.q .Eq (.v 1) (.s "write")) #[.r (.make 9 #[.ix (.v 0) (.i 1)])] .n,.f (.q .Eq (.v 1) (.s "hop")) #[.r (.make 10 #[.ix (.v 0) (.i 1),.ix (.v 0) (.i 2)])] .n,.r (.k 57 #[.v 1])]⟩
abbrev gk:aE:=⟨["_law_word"],["_law_word","_law_made"],[],#[.a 1 (.lst #[.mk0 15,.mk0 16,.mk0 17,.mk0 18,.mk0 19,.mk0 20]),.r (.ix (.v 1) (.lix (.lst #[.s "copy",.s "fill",.s "seek",.s "match",.s "shift",.s "turn"]) (.v 0)))]⟩
abbrev b9:aE:=⟨["_law_hand_here","_law_told_here"],["_law_hand_here","_law_told_here","_law_way","_law_found","_law_size","_law_free"],[],#[.a 2 (.k 54 #[.v 0,.i 3]),.a 3 (.ix (.lst #[.s "do",.s "else",.s "when",.s "times",.s "set",.s "rows",.s "and",.s "a"]) (.k 54 #[.v 0,.i 8])),.f (.q .Gt (.v 2) (.i 0)) #[.a 4 (.bin .Add (.i 1) (.k 54 #[.v 0,.i 8])),.a 3 (.sm .join (.s "") (.lc (.ix (.s "abcdefghijklmnopqrstuvwxyz") (.k 54 #[.v 1,.i 26])) [0] (.rng1 (.v 4))))] .n,.a 5 (.lci (.bin .Add (.s "q") (.v 0)) (.q .NotIn (.bin .Add (.s "q") (.v 0)) (.v 1)) [1] (.seq (.s "abcdefgh"))),.r (.ix (.lst #[.v 3,.ix (.v 5) (.i 0)]) (.bf .int #[.q .In (.v 3) (.v 1)]))]⟩
abbrev cS:aE:=⟨["_law_block_here"],["_law_block_here"],[],#[.r (.bf .all #[.lc (.and (.q .Eq (.ix (.v 0) (.i 0)) (.s "times")) (.or (.q .Eq (.ix (.v 0) (.i 1)) (.i 0)) (.k 59 #[.ix (.v 0) (.i 2)]))) [] (.seq (.v 0))])]⟩
abbrev aO:aE:=⟨["_law_hand_here","_law_told_here","_law_deep","_law_most"],["_law_hand_here","_law_told_here","_law_deep","_law_most","_law_found","_law_some","_law_k","_law_way","_law_pick","_law_many","_law_inner","_law_on","_law_further","_law_block_here"],[],#[.a 4 (.lst .n),.a 5 (.bin .Mult (.v 1) (.bf .int #[.q .Gt (.v 2) (.i 3)])),.for (.nm 6) (.rng1 (.k 54 #[.v 0,.bin .Add (.v 3) (.i 1)])) #[.a 7 (.k 54 #[.v 0,.i 9]),.f (.and (.q .Eq (.v 7) (.i 0)) (.q .NotEq (.v 1) (.lst .n))) #[.e (.lm .append (.v 4) #[.tup #[.s "do",.ix (.v 1) (.k 54 #[.v 0,.bf .len #[.v 1]])]])] #[.f (.and (.q .Eq (.v 7) (.i 1)) (.q .Gt (.v 2) (.i 1))) #[.a 8 (.k 54 #[.v 0,.i 5]),.a 9 (.ix (.lst #[.i 0,.i 1,.i 2,.i 3,.bin .Add (.i 4) (.k 54 #[.v 0,.i 6])]) (.v 8)),.a 10 (.k 60 #[.v 0,.v 5,.bin .Sub (.v 2) (.i 1),.i 2]),.e (.lm .append (.v 4) #[.tup #[.s "times",.bf .min #[.v 9,.bin .Sub (.i 9) (.bin .Mult (.i 8) (.bf .int #[.k 59 #[.v 10]]))],.v 10]])] #[.f (.and (.q .Lt (.v 7) (.i 4)) (.q .Gt (.v 2) (.i 1))) #[.a 11 (.k 54 #[.v 0,.i 2]),.a 12 (.bin .Mult (.i 3) (.k 54 #[.v 0,.i 2])),.a 13 (.k 60 #[.v 0,.v 5,.bin .Sub (.v 2) (.i 1),.i 3]),.e (.lm .append (.v 4) #[.tup #[.s "when",.v 11,.v 13,.k 60 #[.v 0,.v 5,.bin .Sub (.v 2) (.i 1),.v 12]]])] #[.e (.lm .append (.v 4) #[.k 55 #[.v 0,.i 12]])]]]],.r (.v 4)]⟩
abbrev fg:aE:=⟨["_law_hand_here","_law_most"],["_law_hand_here","_law_most","_law_named_here","_law_k","_law_word","_law_block_here"],[],#[.a 2 .dnew,.for (.nm 3) (.rng1 (.k 54 #[.v 0,.bin .Add (.v 1) (.i 1)])) #[.a 4 (.k 58 #[.v 0,.bf .list #[.v 2]]),.a 5 (.k 60 #[.v 0,.bf .list #[.v 2],.i 3,.i 3]),.sub (.v 2) (.v 4) (.bin .Mult (.v 5) (.bf .int #[.not (.k 59 #[.v 5])]))],.r (.v 2)]⟩
abbrev eJ:aE:=⟨["_law_block_here"],["_law_block_here"],[],#[.r (.lc (.k 63 #[.v 0]) [] (.seq (.v 0)))]⟩
abbrev cR:aE:=⟨["_law_spec_here"],["_law_spec_here"],[],#[.f (.q .Eq (.ix (.v 0) (.i 0)) (.s "do")) #[.r (.make 11 #[.ix (.v 0) (.i 1)])] .n,.f (.q .Eq (.ix (.v 0) (.i 0)) (.s "times")) #[.r (.make 12 #[.ix (.v 0) (.i 1),.k 62 #[.ix (.v 0) (.i 2)]])] .n,.f (.and (.q .Eq (.ix (.v 0) (.i 0)) (.s "when")) (.and (.q .Eq (.ix (.v 0) (.i 3)) (.lst .n)) (.q .Eq (.ix (.v 0) (.i 1)) (.i 0)))) #[.r (.make 13 #[.ix (.v 0) (.i 1),.k 62 #[.ix (.v 0) (.i 2)]])] .n,.f (.q .Eq (.ix (.v 0) (.i 0)) (.s "when")) #[.r (.make 13 #[.ix (.v 0) (.i 1),.k 62 #[.ix (.v 0) (.i 2)],.k 62 #[.ix (.v 0) (.i 3)]])] .n,.r (.k 56 #[.v 0])]⟩
abbrev gH:aE:=⟨["_law_named_here"],["_law_named_here","_law_book_here","_law_word"],[],#[.a 1 (.make 14 .n),.for (.nm 2) (.seq (.v 0)) #[.e (.m (.v 1) "name" #[.v 2,.k 62 #[.ix (.v 0) (.v 2)]])],.r (.v 1)]⟩
abbrev dM:aE:=⟨["_law_named_here"],["_law_named_here","_law_counts_here","_law_word"],[],#[.a 1 .dnew,.for (.nm 2) (.seq (.v 0)) #[.sub (.v 1) (.v 2) (.k 66 #[.v 1,.ix (.v 0) (.v 2)])],.r (.v 1)]⟩
abbrev fE:aE:=⟨["_law_counts_here","_law_block_here"],["_law_counts_here","_law_block_here","_law_found","_law_item_here"],[],#[.a 2 (.i 0),.for (.nm 3) (.seq (.v 1)) #[.f (.q .Eq (.ix (.v 3) (.i 0)) (.s "do")) #[.aug 2 .Add (.ix (.v 0) (.ix (.v 3) (.i 1)))] #[.f (.q .Eq (.ix (.v 3) (.i 0)) (.s "times")) #[.aug 2 .Add (.bin .Mult (.ix (.v 3) (.i 1)) (.k 66 #[.v 0,.ix (.v 3) (.i 2)]))] #[.f (.q .Eq (.ix (.v 3) (.i 0)) (.s "when")) #[.aug 2 .Add (.bin .Add (.bin .Add (.bin .Add (.i 1) (.k 66 #[.v 0,.ix (.v 3) (.i 2)])) (.k 66 #[.v 0,.ix (.v 3) (.i 3)])) (.bf .int #[.q .NotEq (.ix (.v 3) (.i 3)) (.lst .n)]))] #[.aug 2 .Add (.i 1)]]]],.r (.v 2)]⟩
abbrev gJ:aE:=⟨["_law_named_here","_law_block_here"],["_law_named_here","_law_block_here","_law_found","_law_at","_law_item_here"],[],#[.a 2 (.lst .n),.for (.tp [3,4]) (.enm (.v 1)) #[.a 2 (.bin .Add (.v 2) (.k 68 #[.tup #[.v 3],.k 69 #[.v 0,.v 4]]))],.r (.v 2)]⟩
abbrev fH:aE:=⟨["_law_head","_law_told_here"],["_law_head","_law_told_here"],[],#[.r (.lct (.tup #[.bin .Add (.v 2) (.v 0),.v 1]) 2 [0] (.seq (.v 1)))]⟩
abbrev dW:aE:=⟨["_law_named_here","_law_item_here"],["_law_named_here","_law_item_here","_law_found","_law_time","_law_one","_law_other","_law_head"],[],#[.f (.q .Eq (.ix (.v 1) (.i 0)) (.s "do")) #[.r (.k 67 #[.v 0,.ix (.v 0) (.ix (.v 1) (.i 1))])] .n,.f (.q .Eq (.ix (.v 1) (.i 0)) (.s "times")) #[.a 2 (.lst .n),.for (.nm 3) (.rng1 (.ix (.v 1) (.i 1))) #[.a 2 (.bin .Add (.v 2) (.k 68 #[.tup #[.v 3],.k 67 #[.v 0,.ix (.v 1) (.i 2)]]))],.r (.v 2)] .n,.f (.q .NotEq (.ix (.v 1) (.i 0)) (.s "when")) #[.r (.lst #[.tup #[.tup .n,.v 1]])] .n,.a 4 (.k 68 #[.tup #[.i 0],.k 67 #[.v 0,.ix (.v 1) (.i 2)]]),.f (.q .Eq (.ix (.v 1) (.i 3)) (.lst .n)) #[.r (.bin .Add (.lst #[.tup #[.tup .n,.tup #[.s "hop",.bf .len #[.v 4],.bin .Sub (.i 1) (.ix (.v 1) (.i 1))]]]) (.v 4))] .n,.a 5 (.k 68 #[.tup #[.i 1],.k 67 #[.v 0,.ix (.v 1) (.i 3)]]),.a 6 (.lst #[.tup #[.tup .n,.tup #[.s "hop",.bin .Add (.bf .len #[.v 4]) (.i 1),.bin .Sub (.i 1) (.ix (.v 1) (.i 1))]]]),.r (.bin .Add (.bin .Add (.bin .Add (.v 6) (.v 4)) (.lst #[.tup #[.tup #[.i 2],.tup #[.s "hop",.bf .len #[.v 5],.non]]])) (.v 5))]⟩
abbrev cE:aE:=⟨["_law_spec_here"],["_law_spec_here"],[],#[.f (.and (.q .Eq (.ix (.v 0) (.i 0)) (.s "hop")) (.q .IsNot (.ix (.v 0) (.i 2)) .non)) #[.r (.lst #[.s "hop",.bf .str #[.ix (.v 0) (.i 1)],.s "if",.bf .str #[.ix (.v 0) (.i 2)]])] .n,.f (.q .Eq (.ix (.v 0) (.i 0)) (.s "hop")) #[.r (.lst #[.s "hop",.bf .str #[.ix (.v 0) (.i 1)]])] .n,.r (.bin .Add (.lst #[.ix (.v 0) (.i 0)]) (.lc (.bf .str #[.v 0]) [] (.seq (.sl (.v 0) (.yes (.i 1)) .no))))]⟩
abbrev gw:aE:=⟨["_law_book_here","_law_block_here"],["_law_book_here","_law_block_here","_law_found","e","_law_words_here"],[],#[.tryx #[.a 2 (.k 46 #[.v 0,.k 62 #[.v 1]])] (.c 0 3 #[.f (.or (.val (.isi (.v 3) (.own 2))) (.or (.not (.val (.isi (.v 3) (.own 3)))) (.not (.val (.isi (.v 3) (.ty "ValueError")))))) #[.r (.tup #[.s "other",.i 0])] .n,.r (.tup #[.s "refused",.fld (.v 3) "many"])] .n),.f (.not (.val (.isi (.v 2) (.ty "list")))) #[.r (.tup #[.s "other",.i 1])] .n,.a 4 (.lc (.m (.v 0) "words" .n) [] (.seq (.v 2))),.e (.lm .clear (.v 2) .n),.r (.tup #[.s "told",.v 4])]⟩
abbrev jK:aE:=⟨["_law_script"],["_law_script","_law_hand_here","_law_named_here","_law_book_here","_law_counts_here","_law_blocks","_law_inner","_law_turn","_law_most","_law_block_here","_law_many","_law_due"],[],#[.a 1 (.k 53 #[.v 0]),.a 2 (.k 61 #[.v 1,.i 4]),.a 3 (.k 64 #[.v 2]),.a 4 (.k 65 #[.v 2]),.a 5 (.lst #[.lst .n,.lst #[.tup #[.s "times",.i 0,.lst #[.tup #[.s "copy"]]]],.lst #[.tup #[.s "when",.k 54 #[.v 1,.i 2],.lst .n,.lst #[.tup #[.s "times",.i 0,.lst #[.tup #[.s "fill"]]]]]]]),.a 6 (.k 60 #[.v 1,.bf .list #[.v 2],.i 3,.i 24]),.a 5 (.bin .Add (.v 5) (.lst #[.lst #[.tup #[.s "times",.i 1,.v 6]],.lst #[.tup #[.s "when",.i 1,.v 6,.lst .n]]])),.for (.nm 7) (.rng1 (.i 8)) #[.a 8 (.ix (.lst #[.i 1,.i 3,.i 6,.i 24]) (.k 54 #[.v 1,.i 4])),.e (.lm .append (.v 5) #[.k 60 #[.v 1,.bf .list #[.v 2],.i 4,.v 8]])],.for (.nm 9) (.seq (.bin .Add (.v 5) (.rev (.v 5) (.neg (.i 1))))) #[.a 10 (.k 66 #[.v 4,.v 9]),.a 11 (.tup #[.s "refused",.v 10]),.f (.cmp2 .LtE .LtE (.i 1) (.v 10) (.i 24)) #[.a 11 (.tup #[.s "told",.lct (.k 70 #[.v 1]) 2 [] (.seq (.k 67 #[.v 2,.v 9]))])] .n,.f (.q .NotEq (.k 71 #[.v 3,.v 9]) (.v 11)) #[.r (.bl false)] .n],.r (.bl true)]⟩
abbrev tab:Tab where
  fns:=(eE::eX::bY::hX::ma::gi::gG::di::dr::f9::c4::gA::cM::fv::cK::fA::cA::dP::jH::qd::cT::gj::dU::qJ::cz::k4::bE::mP::jG::dS::e9::eG::dI::cN::iN::gy::bK::bQ::ic::pO::jv::fu::gB::gh::vq::gu::uz::fB::fq::fM::dN::dH::eU::gf::gI::gx::gg::gk::b9::cS::aO::fg::eJ::cR::gH::dM::fE::gJ::fH::dW::cE::gw::jK::[])
  gfn:=(("is_whole",3)::("is_box",4)::("is_number",5)::("check_box",6)::("check_number",7)::("is_many",18)::("is_on",19)::("is_name",28)::("check_names",29)::("count_item",30)::("count_when",31)::("count_block",32)::("count_of",38)::("under",39)::("laid_do",40)::("laid_times",41)::("laid_when",42)::("laid_item",43)::("laid",44)::("laid_flat",45)::("flat",46)::("_law_hand",53)::("_law_draw",54)::("_law_spec",55)::("_law_deed",56)::("_law_long",57)::("_law_called",58)::("_law_nothing",59)::("_law_block",60)::("_law_named",61)::("_law_items",62)::("_law_item",63)::("_law_book",64)::("_law_counts",65)::("_law_count",66)::("_law_flat",67)::("_law_under",68)::("_law_within",69)::("_law_words",70)::("_law_told",71)::("law",72)::[])
  gcl:=[("HaulError",0),("NoDeed",1),("NoName",2),("NoFlat",3),("Deed",4),("Set",5),("Add",6),("Take",7),("Read",8),("Write",9),("Hop",10),("Do",11),("Times",12),("When",13),("Book",14),("Copy",15),("Fill",16),("Seek",17),("Match",18),("Shift",19),("Turn",20)]
  gbl:=["ValueError","all","bool","enumerate","int","isinstance","len","list","min","range","str","sum"]
  gbi:=["HaulError"]
  na:=[(1,"word"),(2,"word"),(3,"many"),(5,"box"),(5,"number"),(6,"box"),(6,"number"),(7,"box"),(7,"other"),(8,"box"),(9,"box"),(10,"many"),(10,"on"),(11,"called"),(12,"block"),(12,"many"),(13,"block"),(13,"on"),(13,"other"),(14,"blocks"),(14,"counts")]
  me:=[((5,"words"),9),((6,"words"),11),((7,"words"),13),((8,"words"),15),((9,"words"),17),((10,"words"),21),((11,"told"),23),((12,"told"),25),((13,"told"),27),((14,"block_named"),36),((14,"count_named"),37),((14,"has"),34),((14,"name"),35),((15,"words"),47),((16,"words"),48),((17,"words"),49),((18,"words"),50),((19,"words"),51),((20,"words"),52)]
  ini:=[(1,0),(2,1),(3,2),(5,8),(6,10),(7,12),(8,14),(9,16),(10,20),(11,22),(12,24),(13,26),(14,33)]
  ini0:=[]
  inip:=[15,16,17,18,19,20]
  oc:=[4,5,6,7,8,9,10,11,12,13,14,15,16,17,18,19,20]
  xc:=[0,1,2,3]
  sub:=(((0,0),true)::((0,3),false)::((0,2),false)::((1,0),true)::((1,3),false)::((1,2),false)::((2,0),true)::((2,3),false)::((2,2),true)::((3,0),true)::((3,3),true)::((3,2),false)::((4,11),false)::((4,12),false)::((4,13),false)::((5,11),false)::((5,12),false)::((5,13),false)::((6,11),false)::((6,12),false)::((6,13),false)::((7,11),false)::((7,12),false)::((7,13),false)::((8,11),false)::((8,12),false)::((8,13),false)::((9,11),false)::((9,12),false)::((9,13),false)::((10,11),false)::((10,12),false)::((10,13),false)::((11,11),true)::((11,12),false)::((11,13),false)::((12,11),false)::((12,12),true)::((12,13),false)::((13,11),false)::((13,12),false)::((13,13),true)::((14,11),false)::((14,12),false)::((14,13),false)::((15,11),false)::((15,12),false)::((15,13),false)::((16,11),false)::((16,12),false)::((16,13),false)::((17,11),false)::((17,12),false)::((17,13),false)::((18,11),false)::((18,12),false)::((18,13),false)::((19,11),false)::((19,12),false)::((19,13),false)::((20,11),false)::((20,12),false)::((20,13),false)::[])
  subT:=[((0,"ValueError"),true),((1,"ValueError"),true),((2,"ValueError"),true),((3,"ValueError"),true)]
  subB:=[(("NoneType","bool"),false),(("NoneType","int"),false),(("NoneType","list"),false),(("NoneType","str"),false),(("bool","bool"),true),(("bool","int"),true),(("bool","list"),false),(("bool","str"),false),(("int","bool"),false),(("int","int"),true),(("int","list"),false),(("int","str"),false),(("str","bool"),false),(("str","int"),false),(("str","list"),false),(("str","str"),true),(("list","bool"),false),(("list","int"),false),(("list","list"),true),(("list","str"),false),(("tuple","bool"),false),(("tuple","int"),false),(("tuple","list"),false),(("tuple","str"),false),(("dict","bool"),false),(("dict","int"),false),(("dict","list"),false),(("dict","str"),false)]
  subO:=[]
/-- what the proofs ask of the addresses -/
structure Ro (K:W.Frag) (R:Rt):Prop where
  hK:R.K=K
  g_BOUND:R.gl "BOUND"=some (.int 1000000000)
  g_MOST_HOPPED:R.gl "MOST_HOPPED"=some (.int 24)
  g_MOST_ROWS:R.gl "MOST_ROWS"=some (.int 24)
  g_LONGEST_NAME:R.gl "LONGEST_NAME"=some (.int 8)
  g_LETTERS:R.gl "LETTERS"=some (.str "abcdefghijklmnopqrstuvwxyz")
  g_NAMES:∃ a,R.gl "NAMES"=some (.ref a)/\∀ H,bF K H a [.str "here",.str "there",.str "left",.str "way",.str "sign",.str "met"]
end My
set_option Elab.async false
set_option maxHeartbeats 8000000
namespace My
open PySem L2 L3
open L2.V renaming ref→ul,int→ut,str→v0,non→v4
open L2.HO renaming lst→v6,tup→wf,ins→wn
local macro_rules|`(tactic|delta $x:ident)=>`(tactic|refine wc (d:=$x) nofun rfl rfl ?_)
variable {h:List Int}{m i r n:Int}{ns:List Str}{a d dx l:Addr}{v:V}{x:Key}{α:Type}{G:Gx}{A:ai}{vs xs ys es ls:List V}{c:Str->Int}{P:V->Prop}{sp:Sp}{o:Option Int}{F F':List ai}{z:Str}{kvs:List (Key×V)}{D:Ends}{U rest:St}{I:Nat->Addr->List V->Hp->Prop}{H3:Hp}{te:TE}{cs:List (Str×Int)}
section
variable {K:W.Frag}{R:Rt}{k:Nat}{H:Hp}{Q:VK}{E:XK}{O Γ' Δ:List ai}
local macro_rules| `(tactic|walk_at "w")=>`(tactic|conv=>whnf)
local macro_rules| `(tactic|left)=>`(tactic|walk_at "w")
local macro_rules| `(tactic|symm)=>`(tactic|((with_reducible (repeat(first|exact au.e|apply au.t)));done))
local macro_rules| `(tactic|ac_rfl)=>`(tactic|((with_reducible (repeat(first|exact bH.e|apply bH.t)));done))
local macro_rules| `(tactic|ac_nf)=>`(tactic|first|(with_reducible exact Sub.refl)|(refine' Sub.cons ?h ?r;(case h=>symm);(case r=>ac_nf))|(with_reducible exact Sub.nil)|(with_reducible apply Sub.drop;(ac_nf)))
local macro_rules| `(tactic|walk_at "sp")=>`(tactic|(refine Sep.sub ?_ (by with_reducible assumption);(ac_nf)))
local macro_rules| `(tactic|grind)=>`(tactic|first|exact Sep.get (by with_reducible assumption) (by symm)|exact Sep.Ag (by with_reducible assumption) (by symm))
local macro_rules| `(tactic|walk_at "ar")=>`(tactic|first|lia|omega|decide|exact nw rfl|(unfold qH;omega)|(unfold xu;omega)|(unfold xu;decide)|(unfold qH;decide)|(simp only[ce,length_set,List.length_replicate];omega))
local macro_rules| `(tactic|walk_at "ls")=>`(tactic|first|(conv=>lhs;simp only[List.set_cons_succ,List.set_cons_zero,Int.reduceToNat])|rfl)
local macro_rules| `(tactic|walk_at "pf")=>`(tactic|first|(conv=>lhs;simp (decide:=true) only [cp,if_true,if_false])|rfl)
local macro_rules| `(tactic|walk_at "st")=>`(tactic|first
  |(with_reducible refine And.intro rfl ?_)
  |(with_reducible refine aQ rfl ?_)
  |(with_reducible refine ao rfl ?_)
  |(with_reducible refine AX ?_)
  |((with_reducible refine' c8 ?e ?v ?_);(case e=>grind);(case v=>exact rfl))
  |((with_reducible refine' aj ?e ?v ?_);(case e=>grind);(case v=>exact rfl))
  |((with_reducible refine' CO ?e ?i ?v ?_);(case e=>grind);(case i=>omega);(case v=>exact rfl))
  |(with_reducible refine uJ rfl ?_)
  |(with_reducible refine bf_max rfl ?_)
  |((with_reducible refine' bG ?e ?_);(case e=>grind))
  |((with_reducible refine' bf_lenT ?e ?_);(case e=>grind))
  |((with_reducible refine' Dj ?s ?r ?j ?x (λH hs=>?_));(case s=>with_reducible assumption);(case r=>ac_rfl);(case j=>exact rfl);(case x=>walk_at "ls"))
  |((with_reducible refine' ay ?s ?l (λp H hs=>?_));(case s=>with_reducible assumption);(case l=>exact nw rfl))
  |((with_reducible refine' bq ?s ?l (λp H hs=>?_));(case s=>with_reducible assumption);(case l=>exact nw rfl))
  |((with_reducible refine' Br ?s (λp H hs=>?_));(case s=>with_reducible assumption))
  |((with_reducible refine' i5 ?e ?_);(case e=>grind))
  |((with_reducible refine' Bh ?e ?_);(case e=>grind))
  |((with_reducible refine' cB ?s ?e ?f ?l (λp H hs=>?_));(case s=>with_reducible assumption);(case e=>grind);(case f=>grind);(case l=>walk_at "ar"))
  |((with_reducible refine' sk ?s ?e ?f ?g ?l (λp H hs=>?_));(case s=>with_reducible assumption);(case e=>grind);(case f=>walk_at "ar");(case g=>walk_at "ar");(case l=>walk_at "ar"))
  |((with_reducible refine' EL ?s ?r ?o ?n ?l ?x (λH hs=>?_));(case s=>with_reducible assumption);(case r=>ac_rfl);(case o=>exact rfl);(case n=>exact rfl);(case l=>walk_at "ar");(case x=>walk_at "pf"))
  |((with_reducible refine' aA ?e ?o ?n ?l ?_);(case e=>grind);(case o=>exact rfl);(case n=>exact rfl);(case l=>exact rfl))
  |((with_reducible refine' Cy ?e ?o ?n ?l ?_);(case e=>grind);(case o=>exact rfl);(case n=>exact rfl);(case l=>exact rfl))
  |((with_reducible refine' DK ?e ?o ?b ?_);(case e=>grind);(case o=>exact rfl);(case b=>exact rfl))
  |((with_reducible refine' Aa ?e ?o ?b ?_);(case e=>grind);(case o=>exact rfl);(case b=>exact rfl))
  |((with_reducible refine' jq ?t ?b ?_);(case t=>exact rfl);(case b=>exact rfl))
  |((with_reducible refine' bz ?a ?b ?_);(case a=>exact rfl);(case b=>exact rfl))
  |((with_reducible refine' jU ?a ?b ?_);(case a=>exact rfl);(case b=>exact rfl))
  |((with_reducible refine' dE ?s ?e (λp H hs=>?_));(case s=>with_reducible assumption);(case e=>grind))
  |((with_reducible refine' sl_l ?s ?e (λp H hs=>?_));(case s=>with_reducible assumption);(case e=>grind))
  |(refine And.intro (by walk_at "ar") ?_))
local macro_rules| `(tactic|walk_at "go")=>`(tactic|(walk_at "w";repeat(walk_at "st";walk_at "w")))
local macro_rules| `(tactic|right)=>`(tactic|walk_at "go")
abbrev hand (h:Addr)(m:Int):ai:=ex λx:Addr×List Int×Int×Int×Int×Int=>om (pt h (v6 [ul x.1,ut x.2.2.1,ut x.2.2.2.1,ut x.2.2.2.2.1,ut x.2.2.2.2.2])) (om (pt x.1 (v6 (x.2.1.map ut)))
 (pu (x.2.1.length<=63/\0<=x.2.2.1/\x.2.2.1<2147483629/\0<=x.2.2.2.1/\0<=x.2.2.2.2.1/\0<=x.2.2.2.2.2/\x.2.2.2.2.2<=m)))
def sj {h:Addr}(s:Sep (hand h m::O) H):∃ (c:Addr) (ns:List Int) (fo i r n:Int),Sep (pt h (v6 [ul c,ut fo,ut i,ut r,ut n])::pt c (v6 (ns.map ut))::O) H/\ns.length<=63/\0<=fo/\fo<2147483629/\0<=i/\0<=r/\0<=n/\n<=m:=by
 obtain⟨⟨c,ns,fo,i,r,n⟩,s⟩:=Sep.D6.mp s;have s2:=Sep.star.mp ((Sep.star.mp s).pull .k1);have p:=(s2.pull .k1).pure;exact⟨c,ns,fo,i,r,n,((s2.pull .k1).drop).pull .k1,p⟩
def fQ {h c:Addr}{ns:List Int}{fo:Int}(s:Sep (pt h (v6 [ul c,ut fo,ut i,ut r,ut n])::pt c (v6 (ns.map ut))::O) H)(p:ns.length<=63/\0<=fo/\fo<2147483629/\0<=i/\0<=r/\0<=n/\n<=m):Sep (hand h m::O) H:=by
 refine Sep.D6.mpr ⟨⟨c,ns,fo,i,r,n⟩,Sep.star.mpr ?_⟩;exact(Sep.star.mpr (((s.pull .k1).pull .e |> λs=>(Sep.Er p s).pull .k1))).pull .k1
def Dd:(10:Int) ^ Int.toNat 18=1000000000000000000:=by decide
def Ah {h:Addr}(hk:1<=k)(s:Sep (hand h m::O) H)(hm:m<=1099511627776)(hn0:0<n)(hn1:n<1073741824)
  (q:∀ (r:Int) (H':Hp),0<=r->r<n->Sep (hand h (m+1)::O) H'->Q (ut r) H'):ae tab R k 54 [ul h,ut n] H Q E:=by
 obtain⟨c,ns,fo,i,r,j,hs,h63,f0,f1,i0,r0,k0,k1⟩:=sj s;clear s;have nn:n≠0:=by omega
 delta gI;right;refine bO (λhr=>?_) (λhr=>?_)
 .right;rename_i H1 hs1 H2 hs2;exact q _ _ (Int.emod_nonneg _ nn) (Int.emod_lt_of_pos _ hn0) (fQ hs2 ⟨h63,f0,f1,i0,Int.ediv_nonneg r0 nofun,by omega,by omega⟩)
 right;refine bO (λhc=>?_) (λhc=>?_)
 .right;obtain⟨z,hz⟩:∃ z,gX (ns.map ut) i=some (ut z):=uu i0 (by rw[ce]at hc;exact hc);refine c8 (by grind) hz ?_;right;refine bO (λhz18=>?_) (λhz18=>?_)
  .rw[Dd]at hz18;right;rename_i H1 hs1 H2 hs2 H3 hs3;exact q _ _ (Int.emod_nonneg _ nn) (Int.emod_lt_of_pos _ hn0) (fQ hs3 ⟨h63,f0,f1,by omega,Int.ediv_nonneg nofun nofun,by omega,by omega⟩)
  .right;rename_i H1 hs1 H2 hs2;exact q _ _ (Int.emod_nonneg _ nn) (Int.emod_lt_of_pos _ hn0) (fQ hs2 ⟨h63,f0,f1,by omega,r0,by omega,by omega⟩)
 .right;rename_i H1 hs1;exact q _ _ (Int.emod_nonneg _ nn) (Int.emod_lt_of_pos _ hn0) (fQ hs1 ⟨h63,f0,f1,by omega,r0,by omega,by omega⟩)
def A6 {ns:List Int}(hk:1<=k)(s:Sep O H)(hS:aF R.K H a (ns.map ut))(h63:ns.length<=63)(q:∀ h H',Sep (hand h 0::O) H'->Q (ul h) H'):ae tab R k 53 [ul a] H Q E:=by
 delta gf;right;refine EM s hS (λp H1 hs1=>?_);rw[Dv ns h63]at hs1;right;rename_i c H2 hs2;refine gW (xs:=ns.map ut) (λj U H=>∃ (fo:Int) (v:Option V),U=[some (ul a),some (ul c),some (ut fo),v]/\0<=fo/\fo<2147483629/\Sep (pt c (v6 (ns.map ut))::pt p (v6 (ns.map ut))::O) H) ?_ ?_ ?_ ?_
 .exact⟨_,none,rfl,by rw[ce];omega,by rw[ce];omega,hs2⟩
 .rintro j U H ⟨fo,v,rfl,h0,h2,hs⟩;exact aF.of hs.at
 .rintro j x U H hx ⟨fo,v,rfl,h0,h2,hs⟩;obtain⟨z,rfl⟩:=o5 hx;right;exact⟨_,_,rfl,by omega,by omega,hs⟩
 .rintro U H ⟨fo,v,rfl,h0,h2,hs⟩;right;rename_i l H3 hs3;exact q l _ (fQ ((hs3.pull .k2).drop) ⟨h63,h0,h2,by omega,by omega,by omega,by omega⟩)
def aN {h:Addr}(s:Sep (hand h m::O) H)(e:m<=n):Sep (hand h n::O) H:=by
 obtain⟨c,ns,fo,i,r,j,hs,h63,f0,f1,i0,r0,k0,k1⟩:=sj s;exact fQ hs ⟨h63,f0,f1,i0,r0,k0,by omega⟩
inductive Kd (H:Hp):V->String->Prop where
 |non:Kd H v4 "NoneType"
 |bl (b:Bool):Kd H (.bl b) "bool"
 |int (i:Int):Kd H (ut i) "int"
 |str (x:Str):Kd H (v0 x) "str"
 |lst {a:Addr}{xs:List V}(e:H a=some (v6 xs)):Kd H (ul a) "list"
 |tup {a:Addr}{xs:List V}(e:H a=some (wf xs)):Kd H (ul a) "tuple"
 |dct {a:Addr}{kvs:List (Key×V)}(e:Rd H a (.dK kvs)):Kd H (ul a) "dict"
def lP {t:String}(h:tyName v H=some t):Kd H v t:=by
 unfold tyName at h
 split at h
 .cases h;exact .non
 .cases h;exact .bl _
 .cases h;exact .int _
 .cases h;exact .str _
 .split at h
  .rename_i e;cases h;exact .lst e
  .rename_i e;cases h;exact .tup e
  .rename_i e;cases h;exact .dct (.inl e)
  .rename_i e;cases h;exact .dct (.inr ⟨_,e⟩)
  .cases h
 .cases h
abbrev A8:V->Bool
 | ut _=>true
 |_=>false
def cF {t:String}(hk:1<=k)(ht:tyName v H=some t)(q:Q (.bl (A8 v)) H):ae tab R k 3 [v] H Q E:=by
 delta hX;right;cases lP ht
 all_goals
  refine jq ht rfl ?_;right
  first
   |exact q
   |(refine jq ht rfl ?_;right;exact q)
abbrev DT (C:Addr)(fs:List (Str×V))(x:Addr)(fr:Bool):ai:=ex λd:Addr=>om (pt x (.exc C (some d) fs fr)) (pt d (.own x))
def CU {C x:Addr}{fs:List (Str×V)}{fr:Bool}(s:Sep (pt x (.exc C (some d) fs fr)::pt d (.own x)::O) H):Sep (DT C fs x fr::O) H:=Sep.D6.mpr ⟨d,Sep.star.mpr s⟩
def C2 {C x:Addr}{fs:List (Str×V)}{fr:Bool}(s:Sep (DT C fs x fr::O) H):∃ d,Sep (pt x (.exc C (some d) fs fr)::pt d (.own x)::O) H:=let⟨d,s⟩:=Sep.D6.mp s;⟨d,Sep.star.mp s⟩
def fL {xs:List α}{x:α}(h0:0<=i)(hx:xs[i.toNat]? =some x):gX xs i=some x:=by
 have h:=L2.g8 hx
 rwa [Int.toNat_of_nonneg h0]at h
def yq:(10:Int) ^ Int.toNat 9=1000000000:=by decide
local macro_rules| `(tactic|walk_at "dr")=>`(tactic|(refine' Ah ?k ?s ?m ?a ?b (λr H hr0 hr1 hs=>?_);(case s=>walk_at "sp");(case k=>exact nofun);(case m=>omega);(case a=>walk_at "ar");(case b=>walk_at "ar")))
local macro_rules| `(tactic|walk_at "gd")=>`(tactic|(walk_at "w";repeat(first|(walk_at "st";walk_at "w")|(walk_at "dr";walk_at "w"))))
abbrev bx (f:α->List ai):ai:=⟨λH D=>∃ x,aR (f x) H D,λH H' D ⟨x,h⟩ k t=>⟨x,aR.st h k t⟩,λH D D' ⟨x,h⟩ k=>⟨x,aR.up h k⟩⟩
def eZ:∀ {O Δ:List ai}{D:Addr->Prop},aR (O++Δ) H D ↔ ∃ D1 D2:Addr->Prop,(∀ a,D1 a->D a)/\(∀ a,D2 a->D a)/\(∀ a,D1 a->D2 a->False)/\aR O H D1/\aR Δ H D2
 | [],Δ,D=>⟨λh=>⟨λ_=>False,D,λ_ z=>z.elim,λ_ z=>z,λ_ z _=>z,True.intro,h⟩,λ⟨_,_,_,s2,_,_,h⟩=>aR.up h s2⟩
 |A::O,Δ,D=>by
  constructor
  .rintro⟨E1,E2,s1,s2,dj,hA,h⟩;obtain⟨F1,F2,t1,t2,dk,h1,h2⟩:=eZ.mp h;refine⟨λa=>E1 a\/F1 a,F2,λa z=>z.elim (s1 a) λz=>s2 a (t1 a z),λa z=>s2 a (t2 a z),λa z w=>z.elim (λz=>dj a z (t2 a w)) λz=>dk a z w,?_,h2⟩;exact⟨E1,F1,λa z=>.inl z,λa z=>.inr z,λa z w=>dj a z (t1 a w),hA,h1⟩
  .rintro⟨D1,D2,s1,s2,dj,⟨E1,E2,t1,t2,dk,hA,h1⟩,h2⟩;refine⟨E1,λa=>E2 a\/D2 a,λa z=>s1 a (t1 a z),λa z=>z.elim (λz=>s1 a (t2 a z)) (s2 a),λa z w=>w.elim (dk a z) λw=>dj a (t1 a z) w,hA,?_⟩;exact eZ.mpr ⟨E2,D2,λa z=>.inl z,λa z=>.inr z,λa z w=>dj a (t2 a z) w,h1,h2⟩
def DN {f:α->List ai}(s:Sep (bx f::O) H):∃ x,Sep (f x++O) H:=by
 obtain⟨D,k,D1,D2,s1,s2,dj,⟨x,h1⟩,h2⟩:=s;exact⟨x,D,k,eZ.mpr ⟨D1,D2,s1,s2,dj,h1,h2⟩⟩
def Bb {f:α->List ai}(x:α)(s:Sep (f x++O) H):Sep (bx f::O) H:=by
 obtain⟨D,k,h⟩:=s;obtain⟨D1,D2,s1,s2,dj,h1,h2⟩:=eZ.mp h;exact⟨D,k,D1,D2,s1,s2,dj,⟨x,h1⟩,h2⟩
abbrev De:List Str:=["here","there","left","way","sign","met"]
abbrev nB:V->Bool
 | ut i=>decide (-1000000000<=i)&&decide (i<=1000000000)
 |_=>false
def l9 {t:String}(ro:Ro K R)(hk:2<=k)(ht:tyName v H=some t)(q:Q (.bl (nB v)) H):ae tab R k 5 [v] H Q E:=by
 delta gi;right;refine cF nofun ht ?_;cases lP ht
 case int i=>
  left;refine aQ rfl ?_;left;simp only[ro.g_BOUND];right;refine bO (λh0=>?_) (λh0=>?_)
  .left;simp only[ro.g_BOUND];right;have e:nB (ut i)=decide (i<=1000000000):=by simp[nB,h0]
   rw[e]at q;exact q
  .right;have e:nB (ut i)=false:=by simp[nB,h0]
   rw[e]at q;exact q
 all_goals
  right;exact q
def Bs {j:Nat}{x:Str}(h:De[j]? =some x):(j=0/\x="here")\/(j=1/\x="there")\/(j=2/\x="left")\/(j=3/\x="way")\/(j=4/\x="sign")\/(j=5/\x="met"):=by
 rcases j with _|_|_|_|_|_|j
 .cases h;exact .inl ⟨rfl,rfl⟩
 .cases h;exact .inr (.inl ⟨rfl,rfl⟩)
 .cases h;exact .inr (.inr (.inl ⟨rfl,rfl⟩))
 .cases h;exact .inr (.inr (.inr (.inl ⟨rfl,rfl⟩)))
 .cases h;exact .inr (.inr (.inr (.inr (.inl ⟨rfl,rfl⟩))))
 .cases h;exact .inr (.inr (.inr (.inr (.inr ⟨rfl,rfl⟩))))
 .exact absurd h (by simp[De])
local macro_rules| `(tactic|walk_at "sc")=>`(tactic|first|(refine aQ (by decide+kernel) ?_;walk_at "go")|(refine ao (by decide+kernel) ?_;walk_at "go"))
abbrev C9:V->Bool
 | v0 x=>sM (v0 x) (De.map v0)
 |_=>false
def xX {t:String}(ro:Ro K R)(hk:1<=k)(ht:tyName v H=some t)(q:Q (.bl (C9 v)) H):ae tab R k 4 [v] H Q E:=by
 delta ma;right;obtain⟨a,hg,hs⟩:=ro.g_NAMES;have hs':=hs H;rw[<-ro.hK]at hs';cases lP ht
 case str x=>
  refine jq ht rfl ?_;left;refine aQ rfl ?_;left;simp only[hg];right;exact ED hs' rfl rfl q
 all_goals
  refine jq ht rfl ?_;right;exact q
def BB {j:Nat}{x:Str}(hj:De[j]? =some x):C9 (v0 x)=true:=by
 rcases Bs hj with⟨rfl,rfl⟩|⟨rfl,rfl⟩|⟨rfl,rfl⟩|⟨rfl,rfl⟩|⟨rfl,rfl⟩|⟨rfl,rfl⟩<;>rfl
abbrev Ob (R:Rt)(A:ai)(b:Addr)(i:Nat)(fl:List Str):Prop:=∀ H D,A.p H D->∃ dx fs,H b=some (wn (R.cad i) dx fs)/\fs.map (·.1)=fl
def pF {m:Str}:∀ {fs:List (Str×V)},(fs.map (·.1)).all (λx=>!(m ==x))=true->fs.lookup m=none
 | [],_=>rfl
 |(x,v)::fs,h=>by
  simp only[map_cons,all_cons,lw]at h;have h1:(m ==x)=false:=by simpa using h.1
  rw[lookup_cons,h1];exact pF h.2
def v7 {b:Addr}{i f:Nat}{fl:List Str}{m:Str}{X:Nat->Prop}(o:Ob G.R A b i fl)(s:Sep O H)(p:au A O Δ)(hm:fl.all (λx=>!(m ==x))=true) (hf:G.T.me.lookup (i,m)=some f) (h:X f):
  ∃ p' i' dx fs f',ul b=ul p'/\H p'=some (wn (G.R.cad i') dx fs)/\fs.lookup m=none/\G.T.me.lookup (i',m)=some f'/\X f':=by
 obtain⟨D,k,D1,D2,s1,s2,dj,h1,h2⟩:=s.pull p;obtain⟨dx,fs,e1,e2⟩:=o H D1 h1;exact⟨b,i,dx,fs,f,rfl,e1,pF (e2▸hm),hf,h⟩
structure Bx where
 h:Int
 t:Int
 l:Int
 w:Int
 s:Int
 m:Int
abbrev Bx.ok (x:Bx):Prop:=(-1000000000<=x.h/\x.h<=1000000000)/\(-1000000000<=x.t/\x.t<=1000000000)/\(0<=x.l/\x.l<=1000000000)/\(x.w=1\/x.w= -1)/\(0<=x.s/\x.s<=1000000000)/\(x.m=0\/x.m=1)
section
variable {b:Addr}{h t l w s m i:Int}
end
abbrev gt (cs:List Int)(i:Int):Int:=(cs[i.toNat]?).getD 0
section
variable {a:Addr}{cs:List Int}{ws:List Str}{i v:Int}
end
def iw {T:Tab}{f:Nat}{vs':List V}(e:vs=vs')(h:ae T R k f vs' H Q E):ae T R k f vs H Q E:=e▸h
local macro_rules| `(tactic|walk_at "ag")=>`(tactic|first|refine iw (vs':=[_,_]) rfl ?_|refine iw (vs':=[_,_,_]) rfl ?_|refine iw (vs':=[_]) rfl ?_|refine iw (vs':=[_,_,_,_]) rfl ?_)
local macro_rules| `(tactic|walk_at "ws")=>`(tactic|(walk_at "w";repeat(first|(walk_at "st";walk_at "w")|(walk_at "mt";walk_at "w")|(walk_at "ag";(walk_at "hq");walk_at "w")|(walk_at "ag";(walk_at "gq");walk_at "w"))))
local macro_rules| `(tactic|walk_at "sc")=>`(tactic|first|(refine aQ (by decide+kernel) ?_;walk_at "go")|(refine ao (by decide+kernel) ?_;walk_at "go"))
section
variable {b a:Addr}{h t l w s m i j by':Int}{cs:List Int}{ws:List Str}
end
section
variable {b a:Addr}{h t l w s m i j:Int}{cs:List Int}{ws:List Str}
end
abbrev b2i (c:Bool):Int:=match c with
 |true=>1
 |false=>0
def dB {c:Bool}(q:Q (ut (b2i c)) H):gM G .int [.bl c] H Q:=by
 unfold gM;refine .inr ⟨c,rfl,?_⟩;cases c<;>exact q
section
variable {cs:List Int}{f g:Nat->Int}{i v:Int}
end
abbrev dd (R:Rt)(d:Addr)(c:Nat):ai:=bx λdx:Addr=>[pt d (wn (R.cad c) dx []),pt dx (.own d)]
def EZ {c:Nat}(s:Sep (pt d (wn (R.cad c) dx [])::pt dx (.own d)::O) H):Sep (dd R d c::O) H:=Bb dx s
def Dt {c:Nat}:Ob R (dd R d c) d c []:=by
 rintro H D ⟨dx,D1,D2,_,_,_,⟨_,h⟩,_⟩;exact⟨dx,_,h,rfl⟩
section
variable {d:Addr}{h t l w s m i:Int}{P:Hp->Prop}
end
local macro_rules| `(tactic|walk_at "sx")=>`(tactic|((with_reducible (first|refine' dx_h ?s ?p ?_|refine' dx_t ?s ?p ?_|refine' dx_l ?s ?p ?_|refine' dx_w ?s ?p ?_|refine' dx_s ?s ?p ?_|refine' dx_m ?s ?p ?_));(case s=>with_reducible assumption);(case p=>symm)))
local macro_rules| `(tactic|walk_at "sy")=>`(tactic|((with_reducible (first|refine' ds_h ?s ?p (λH hs=>?_)|refine' ds_t ?s ?p (λH hs=>?_)|refine' ds_l ?s ?p (λH hs=>?_)|refine' ds_w ?s ?p (λH hs=>?_)|refine' ds_s ?s ?p (λH hs=>?_)|refine' ds_m ?s ?p (λH hs=>?_)));(case s=>with_reducible assumption);(case p=>ac_rfl)))
local macro_rules| `(tactic|walk_at "wd")=>`(tactic|(walk_at "w";repeat(first|(walk_at "sx";walk_at "w")|(walk_at "sy";walk_at "w")|(walk_at "st";walk_at "w")|(refine dB ?_;walk_at "w"))))
inductive Wd where
 |copy|fill|seek|mtch|shift|turn
abbrev Wd.s:Wd->Str
 | .copy=>"copy"
 | .fill=>"fill"
 | .seek=>"seek"
 | .mtch=>"match"
 | .shift=>"shift"
 | .turn=>"turn"
section
variable {d p:Addr}{h t l w s m:Int}{cs:List Int}{ws:List Str}
end
def cZ {xs:List α}(h0:0<=i)(h1:i<xs.length):∃ v,gX xs i=some v/\v ∈ xs:=by
 have hl:i.toNat<xs.length:=by omega
 refine⟨xs[i.toNat],?_,List.getElem_mem hl⟩;have:=L2.g8 (lf hl)
 rwa [Int.toNat_of_nonneg h0]at this
def lY (h0:0<=r)(h1:r<xs.length)(h:∀ v ∈ xs,P v):∃ v,gX xs r=some v/\P v:=by
 obtain⟨v,hv,hm⟩:=cZ h0 h1;exact⟨v,hv,h v hm⟩
abbrev inR (lo hi:Int)(v:V):Prop:=∃ i,v=ut i/\lo<=i/\i<=hi
def inR.mk {lo hi:Int}(h0:lo<=i)(h1:i<=hi):inR lo hi (ut i):=⟨i,rfl,h0,h1⟩
def Fs {a b c:V}(ha:P a)(hb:P b)(hc:P c):∀ v ∈ [a,b,c],P v:=λv hv=>by
 simp only[lv,not_mem_nil,or_false]at hv;rcases hv with rfl|rfl|rfl<;>assumption
def Ft {a b c d:V}(ha:P a)(hb:P b)(hc:P c)(hd:P d):∀ v ∈ [a,b,c,d],P v:=λv hv=>by
 simp only[lv,not_mem_nil,or_false]at hv;rcases hv with rfl|rfl|rfl|rfl<;>assumption
abbrev b6:Nat->iO->iO
 |0,b=>b
 |n+1,.cons _ r=>b6 n r
 |_+1,.nil=>.nil
abbrev Wd.cl:Wd->Nat
 | .copy=>15
 | .fill=>16
 | .seek=>17
 | .mtch=>18
 | .shift=>19
 | .turn=>20
def AA (wd:Wd)(hk:1<=k)(z:Sep O H)(q:∀ d H',Sep (dd R d wd.cl::O) H'->Q (ul d) H'):ae tab R k 57 [v0 wd.s] H Q E:=by
 delta gk;right;refine qI z (λa1 d1 H1 z1=>?_);right;refine qI z1 (λa2 d2 H2 z2=>?_);right;refine qI z2 (λa3 d3 H3 z3=>?_);right;refine qI z3 (λa4 d4 H4 z4=>?_);right;refine qI z4 (λa5 d5 H5 z5=>?_);right;refine qI z5 (λa6 d6 H6 z6=>?_);clear z z1 z2 z3 z4 z5;right;rename_i l1 H7 z7 l2 H8 z8;refine⟨l2,_,rfl,z8.at,?_⟩;left;have ex:∃ j:Nat,j<6/\([v0 "copy",v0 "fill",v0 "seek",v0 "match",v0 "shift",v0 "turn"]:List V)[j]? =some (v0 wd.s)/\(∀ m,m<j->gF (([v0 "copy",v0 "fill",v0 "seek",v0 "match",v0 "shift",v0 "turn"]:List V).getD m v4) (v0 wd.s)=false)/\∃ a d,([ul a1,ul a2,ul a3,ul a4,ul a5,ul a6]:List V)[j]? =some (ul a)/\Sep (pt a (wn (R.cad wd.cl) d [])::pt d (.own a)::O) H8:=by
  cases wd
  .exact⟨0,by decide,rfl,by decide+kernel,a1,d1,rfl,z8.sub (Γ':=pt a1 (wn (R.cad 15) d1 [])::pt d1 (.own a1)::O) (by ac_nf)⟩
  .exact⟨1,by decide,rfl,by decide+kernel,a2,d2,rfl,z8.sub (Γ':=pt a2 (wn (R.cad 16) d2 [])::pt d2 (.own a2)::O) (by ac_nf)⟩
  .exact⟨2,by decide,rfl,by decide+kernel,a3,d3,rfl,z8.sub (Γ':=pt a3 (wn (R.cad 17) d3 [])::pt d3 (.own a3)::O) (by ac_nf)⟩
  .exact⟨3,by decide,rfl,by decide+kernel,a4,d4,rfl,z8.sub (Γ':=pt a4 (wn (R.cad 18) d4 [])::pt d4 (.own a4)::O) (by ac_nf)⟩
  .exact⟨4,by decide,rfl,by decide+kernel,a5,d5,rfl,z8.sub (Γ':=pt a5 (wn (R.cad 19) d5 [])::pt d5 (.own a5)::O) (by ac_nf)⟩
  .exact⟨5,by decide,rfl,by decide+kernel,a6,d6,rfl,z8.sub (Γ':=pt a6 (wn (R.cad 20) d6 [])::pt d6 (.own a6)::O) (by ac_nf)⟩
 obtain⟨j,j6,hj,hm,a,d,ha,zd⟩:=ex;refine Ed (j:=j) (λx=>gF x (v0 wd.s)) z8.at (by decide) (λx hx=>⟨0,by decide,.flat ?_ rfl⟩) hj (iz rfl) (λm x h1 h2=>?_) ?_
 .simp only[lv,not_mem_nil,or_false]at hx;rcases hx with rfl|rfl|rfl|rfl|rfl|rfl<;>rfl
 .have:=hm m h1
  rwa [List.getD_eq_getElem?_getD,h2]at this
 .left;refine c8 (z8.get .k1) (fL (i:=(j:Int)) nofun (by rw[re];exact ha)) ?_;left;exact q a H8 (EZ zd)
inductive Bn where
 |h
 |t
 |l
 |w
 |s
 |m
abbrev Bn.j:Bn->Nat
 | .h=>0
 | .t=>1
 | .l=>2
 | .w=>3
 | .s=>4
 | .m=>5
abbrev Bn.nm:Bn->Str
 | .h=>"here"
 | .t=>"there"
 | .l=>"left"
 | .w=>"way"
 | .s=>"sign"
 | .m=>"met"
def Bn.at (b:Bn):De[b.j]? =some b.nm:=by cases b<;>rfl
abbrev Bx.p (x:Bx)(i:Int):Bn->Bx
 | .h=>⟨i,x.t,x.l,x.w,x.s,x.m⟩
 | .t=>⟨x.h,i,x.l,x.w,x.s,x.m⟩
 | .l=>⟨x.h,x.t,i,x.w,x.s,x.m⟩
 | .w=>⟨x.h,x.t,x.l,i,x.s,x.m⟩
 | .s=>⟨x.h,x.t,x.l,x.w,i,x.m⟩
 | .m=>⟨x.h,x.t,x.l,x.w,x.s,i⟩
def yM (h0:0<=r)(h1:r<6):∃ b:Bn,gX [v0 "here",v0 "there",v0 "left",v0 "way",v0 "sign",v0 "met"] r=some (v0 b.nm):=by
 have:r=0\/r=1\/r=2\/r=3\/r=4\/r=5:=by omega
 rcases this with rfl|rfl|rfl|rfl|rfl|rfl
 .exact⟨.h,rfl⟩
 .exact⟨.t,rfl⟩
 .exact⟨.l,rfl⟩
 .exact⟨.w,rfl⟩
 .exact⟨.s,rfl⟩
 .exact⟨.m,rfl⟩
inductive Sp where
 |set (b:Bn) (i:Int)
 |add (b:Bn) (i:Int)
 |take (b c:Bn)
 |read (b:Bn)
 |write (b:Bn)
abbrev Sp.w:Sp->Str
 | .set _ _=>"set"
 | .add _ _=>"add"
 | .take _ _=>"take"
 | .read _=>"read"
 | .write _=>"write"
abbrev Sp.b:Sp->Bn
 | .set b _=>b
 | .add b _=>b
 | .take b _=>b
 | .read b=>b
 | .write b=>b
abbrev Sp.tl:Sp->List V
 | .set b i=>[v0 "set",v0 b.nm,ut i]
 | .add b i=>[v0 "add",v0 b.nm,ut i]
 | .take b c=>[v0 "take",v0 b.nm,v0 c.nm]
 | .read b=>[v0 "read",v0 b.nm]
 | .write b=>[v0 "write",v0 b.nm]
abbrev Sp.cl:Sp->Nat
 | .set _ _=>5
 | .add _ _=>6
 | .take _ _=>7
 | .read _=>8
 | .write _=>9
abbrev Sp.fs:Sp->List (Str×V)
 | .set b i=>[("box",v0 b.nm),("number",ut i)]
 | .add b i=>[("box",v0 b.nm),("number",ut i)]
 | .take b c=>[("box",v0 b.nm),("other",v0 c.nm)]
 | .read b=>[("box",v0 b.nm)]
 | .write b=>[("box",v0 b.nm)]
abbrev Sp.ok:Sp->Prop
 | .set _ i=>-1000000000<=i/\i<=1000000000
 | .add _ i=>-1000000000<=i/\i<=1000000000
 |_=>True
abbrev sd (R:Rt)(d:Addr)(sp:Sp):ai:=bx λdx:Addr=>[pt d (wn (R.cad sp.cl) dx sp.fs),pt dx (.own d)]
def sZ (s:Sep (pt d (wn (R.cad sp.cl) dx sp.fs)::pt dx (.own d)::O) H):Sep (sd R d sp::O) H:=Bb dx s
def Ce (s:Sep O H)(p:au (sd R d sp) O Δ):∃ dx,H d=some (wn (R.cad sp.cl) dx sp.fs):=by
 obtain⟨dx,s⟩:=DN (s.pull p);exact⟨dx,Sep.at s⟩
def CV:Ob R (sd R d sp) d sp.cl (sp.fs.map (·.1)):=by
 rintro H D ⟨dx,D1,D2,_,_,_,⟨_,h⟩,_⟩;exact⟨dx,_,h,rfl⟩
variable {w:Str}
def aV {n:Bn}(ro:Ro K R)(hk:2<=k)(q:Q v4 H):ae tab R k 6 [v0 w,v0 n.nm] H Q E:=by
 delta gG;right;refine xX (t:="str") ro nofun rfl ?_;rw[BB n.at];right;exact q
def c5 (ro:Ro K R)(hk:3<=k)(h0: -1000000000<=i)(h1:i<=1000000000)(q:Q v4 H):ae tab R k 7 [v0 w,ut i] H Q E:=by
 delta di;right;refine l9 (t:="int") ro nofun rfl ?_;rw[show nB (ut i)=true by simp[nB,h0,h1]];right;exact q
def CK {x:Addr}{n:Bn}(ro:Ro K R)(hk:4<=k)(h0: -1000000000<=i)(h1:i<=1000000000)(z:Sep (pt x (wn (R.cad 5) dx [])::pt dx (.own x)::O) H)(q:∀ H',Sep (sd R x (.set n i)::O) H'->Q v4 H'):ae tab R k 8 [ul x,v0 n.nm,ut i] H Q E:=by
 delta dr;right;refine aV ro nofun ?_;right;refine c5 ro nofun h0 h1 ?_;right;exact q _ (sZ (by assumption))
def C5 {x:Addr}{n:Bn}(ro:Ro K R)(hk:4<=k)(h0: -1000000000<=i)(h1:i<=1000000000)(z:Sep (pt x (wn (R.cad 6) dx [])::pt dx (.own x)::O) H)(q:∀ H',Sep (sd R x (.add n i)::O) H'->Q v4 H'):ae tab R k 10 [ul x,v0 n.nm,ut i] H Q E:=by
 delta c4;right;refine aV ro nofun ?_;right;refine c5 ro nofun h0 h1 ?_;right;exact q _ (sZ (by assumption))
def Dn {x:Addr}{n m:Bn}(ro:Ro K R)(hk:4<=k)(z:Sep (pt x (wn (R.cad 7) dx [])::pt dx (.own x)::O) H)(q:∀ H',Sep (sd R x (.take n m)::O) H'->Q v4 H'):ae tab R k 12 [ul x,v0 n.nm,v0 m.nm] H Q E:=by
 delta cM;right;refine aV ro nofun ?_;right;refine aV ro nofun ?_;right;exact q _ (sZ (by assumption))
def CI {x:Addr}{n:Bn}(ro:Ro K R)(hk:4<=k)(z:Sep (pt x (wn (R.cad 8) dx [])::pt dx (.own x)::O) H)(q:∀ H',Sep (sd R x (.read n)::O) H'->Q v4 H'):ae tab R k 14 [ul x,v0 n.nm] H Q E:=by
 delta cK;right;refine aV ro nofun ?_;right;exact q _ (sZ (by assumption))
def CJ {x:Addr}{n:Bn}(ro:Ro K R)(hk:4<=k)(z:Sep (pt x (wn (R.cad 9) dx [])::pt dx (.own x)::O) H)(q:∀ H',Sep (sd R x (.write n)::O) H'->Q v4 H'):ae tab R k 16 [ul x,v0 n.nm] H Q E:=by
 delta cA;right;refine aV ro nofun ?_;right;exact q _ (sZ (by assumption))
abbrev ik:V->Bool
 | ut i=>decide (0<=i)&&decide (i<=24)
 |_=>false
abbrev B1:V->Bool
 | v4=>true
 | ut i=>i ==0||i ==1
 |_=>false
def rH {t:String}(ro:Ro K R)(hk:2<=k)(ht:tyName v H=some t)(q:Q (.bl (ik v)) H):ae tab R k 18 [v] H Q E:=by
 delta jH;right;refine cF nofun ht ?_;cases lP ht
 case int i=>
  right;refine bO (λh0=>?_) (λh0=>?_)
  .left;simp only[ro.g_MOST_HOPPED];right;rw[show ik (ut i)=decide (i<=24) by simp[ik,h0]]at q;exact q
  .right;rw[show ik (ut i)=false by simp[ik,h0]]at q;exact q
 all_goals
  right;exact q
def w9 {t:String}(hk:2<=k)(ht:tyName v H=some t)(q:Q (.bl (B1 v)) H):ae tab R k 19 [v] H Q E:=by
 delta qd;right;refine oa ?_;cases lP ht
 case int i=>
  left;refine ao rfl ?_;right;refine cF (t:="int") nofun rfl ?_;right;refine cL (λh0=>?_) (λh0=>?_)
  .right;rw[show B1 (ut i)=true by simp[B1,h0]]at q;exact q
  .right;rw[show B1 (ut i)=(i ==1) by simp[B1,h0]]at q;exact q
 case non=>
  left;refine aQ rfl ?_;exact q
 all_goals
  left;refine ao rfl ?_;right;refine cF nofun ht ?_;right;exact q
abbrev oV:Option Int->V
 |none=>v4
 |some i=>ut i
abbrev B7:Option Int->Prop
 |none=>True
 |some i=>i=0\/i=1
abbrev B6 (R:Rt)(d:Addr)(n:Int)(o:Option Int):ai:=bx λdx:Addr=>[pt d (wn (R.cad 10) dx [("many",ut n),("on",oV o)]),pt dx (.own d)]
def El (s:Sep (pt d (wn (R.cad 10) dx [("many",ut n),("on",oV o)])::pt dx (.own d)::O) H):Sep (B6 R d n o::O) H:=Bb dx s
def yY (s:Sep O H)(p:au (B6 R d n o) O Δ):∃ dx,H d=some (wn (R.cad 10) dx [("many",ut n),("on",oV o)]):=by
 obtain⟨dx,s⟩:=DN (s.pull p);exact⟨dx,Sep.at s⟩
def DL:Ob R (B6 R d n o) d 10 ["many","on"]:=by
 rintro H D ⟨dx,D1,D2,_,_,_,⟨_,h⟩,_⟩;exact⟨dx,_,h,rfl⟩
def pC {x:Addr}(ro:Ro K R)(hk:4<=k)(h0:0<=n)(h1:n<=24)(ho:B7 o)(z:Sep (pt x (wn (R.cad 10) dx [])::pt dx (.own x)::O) H)(q:∀ H',Sep (B6 R x n o::O) H'->Q v4 H'):ae tab R k 20 [ul x,ut n,oV o] H Q E:=by
 delta cT;right;refine rH (t:="int") ro nofun rfl ?_;rw[show ik (ut n)=true by simp[ik,h0,h1]];right;obtain⟨t,ht⟩:∃ t,tyName (oV o) H=some t:=by cases o<;>exact⟨_,rfl⟩
 refine w9 nofun ht ?_;rw[show B1 (oV o)=true by cases o with|none=>rfl|some i=>rcases ho with rfl|rfl<;>rfl];right;exact q _ (El (by assumption))
inductive Rw where
 |lg (w:Wd)
 |sp (s:Sp)
 |hop (n:Int) (o:Option Int)
abbrev Rw.tl:Rw->List V
 | .lg w=>[v0 w.s]
 | .sp s=>s.tl
 | .hop n o=>[v0 "hop",ut n,oV o]
abbrev Rw.ok:Rw->Prop
 | .lg _=>True
 | .sp s=>s.ok
 | .hop n o=>(0<=n/\n<=24)/\B7 o
abbrev Rw.cl:Rw->Nat
 | .lg w=>w.cl
 | .sp s=>s.cl
 | .hop _ _=>10
abbrev bS (R:Rt)(d:Addr):Rw->ai
 | .lg w=>dd R d w.cl
 | .sp s=>sd R d s
 | .hop n o=>B6 R d n o
abbrev Rw.fs:Rw->List Str
 | .lg _=>[]
 | .sp s=>s.fs.map (·.1)
 | .hop _ _=>["many","on"]
def yA (r:Rw):Ob R (bS R d r) d r.cl r.fs:=by
 cases r with
 |lg w=>exact Dt
 |sp s=>exact CV
 |hop n o=>exact DL
def DO {r:Rw}(z:Sep O H)(p:au (bS R d r) O Δ):∃ dx fs,H d=some (wn (R.cad r.cl) dx fs):=by
 obtain⟨D,k,D1,D2,s1,s2,dj,h1,h2⟩:=z.pull p;obtain⟨dx,fs,e,_⟩:=yA r H D1 h1;exact⟨dx,fs,e⟩
def CB (h0:0<=r)(h1:r<6):∃ wd:Wd,gX [v0 "copy",v0 "fill",v0 "seek",v0 "match",v0 "shift",v0 "turn"] r=some (v0 wd.s):=by
 have:r=0\/r=1\/r=2\/r=3\/r=4\/r=5:=by omega
 rcases this with rfl|rfl|rfl|rfl|rfl|rfl
 .exact⟨.copy,rfl⟩
 .exact⟨.fill,rfl⟩
 .exact⟨.seek,rfl⟩
 .exact⟨.mtch,rfl⟩
 .exact⟨.shift,rfl⟩
 .exact⟨.turn,rfl⟩
def Bl (h0:0<=r)(h1:r<3):∃ o:Option Int,gX [v4,ut 0,ut 1] r=some (oV o)/\B7 o:=by
 rcases(by omega:r=0\/r=1\/r=2) with rfl|rfl|rfl
 .exact⟨none,rfl,True.intro⟩
 .exact⟨some 0,rfl,.inl rfl⟩
 .exact⟨some 1,rfl,.inr rfl⟩
abbrev qb (v:V):Prop:=∃ b:Bn,v=v0 b.nm
def xM {h:Addr}{sz:Int}(hk:2<=k)(s:Sep (hand h m::O) H)(hm:m<=1099510000000)(h0:0<=sz)(h1:sz<=60)(q:∀ t r H',Rw.ok r->Sep (tu t r.tl::hand h (m+10)::O) H'->Q (ul t) H'):ae tab R k 55 [ul h,ut sz] H Q E:=by
 delta gx;walk_at "gd";rename_i wy H1 wy0 wy1 hs1 p1 H2 hs2 r2 H3 r20 r21 hs3;obtain⟨b,e2⟩:=yM r20 r21;refine c8 (by grind) e2 ?_;clear s hs1 hs2;right;refine bO (λg0=>?_) (λg0=>?_)
 .right;rename_i l4 H4 hs4;obtain⟨wd,e3⟩:=CB wy0 g0;refine c8 (by grind) e3 ?_;right;rename_i t H5 hs5;have z6:Sep (tu t (Rw.tl (.lg wd))::_) _:=hs5.toT;exact q t (.lg wd) _ True.intro ((aN (n:=m+10) (z6.pull (A:=hand h _) (by symm)) nofun).sub (by ac_nf))
 right;refine bO (λg1=>?_) (λg1=>?_)
 .walk_at "gd";rename_i l4 H4 hs4 r5 H5 r50 r51 hs5;obtain⟨v,e3,b3,rfl⟩:=lY (P:=qb) (xs:=[v0 "here",v0 "there",v0 "left",v0 b.nm]) (r:=r5) r50 (by simpa using r51) (Ft ⟨.h,rfl⟩ ⟨.t,rfl⟩ ⟨.l,rfl⟩ ⟨b,rfl⟩);refine c8 (by grind) e3 ?_;walk_at "gd";rename_i r6 H6 r60 r61 hs6 r7 H7 r70 r71 hs7 r8 H8 r80 r81 hs8 r9 H9 r90 r91 hs9 l10 H10 hs10;obtain⟨v,e4,i,rfl,i0,i1⟩:=lY (xs:=[ut r7,ut (r8-2),ut (10 ^ Int.toNat 9-r9)]) (P:=inR (-1000000000) 1000000000) (r:=r6 / 3) nofun (by simp;omega) (Fs (.mk nofun nofun) (.mk nofun nofun) (.mk (by rw[yq];omega) (by rw[yq];omega)));refine c8 (by grind) e4 ?_;right;rename_i t H11 hs11;have z6:Sep (tu t (Rw.tl (.sp (.set b3 i)))::_) _:=hs11.toT;exact q t (.sp (.set b3 i)) _ ⟨i0,i1⟩ ((aN (n:=m+10) (z6.pull (A:=hand h _) (by symm)) nofun).sub (by ac_nf))
 right;refine cL (λg2=>?_) (λg2=>?_)
 .walk_at "gd";rename_i r6 H6 r60 r61 hs6 r7 H7 r70 r71 hs7 r8 H8 r80 r81 hs8 l10 H10 hs10;obtain⟨v,e4,i,rfl,i0,i1⟩:=lY (xs:=[ut (r7-3),ut r8,ut (-(10 ^ Int.toNat 9))]) (P:=inR (-1000000000) 1000000000) (r:=r6 / 3) nofun (by simp;omega) (Fs (.mk nofun nofun) (.mk nofun nofun) (.mk (by rw[yq];omega) (by rw[yq];omega)));refine c8 (by grind) e4 ?_;right;rename_i t H11 hs11;have z6:Sep (tu t (Rw.tl (.sp (.add b i)))::_) _:=hs11.toT;exact q t (.sp (.add b i)) _ ⟨i0,i1⟩ ((aN (n:=m+10) (z6.pull (A:=hand h _) (by symm)) nofun).sub (by ac_nf))
 right;refine cL (λg3=>?_) (λg3=>?_)
 .walk_at "gd";rename_i r6 H6 r60 r61 hs6;obtain⟨c,e3⟩:=yM r60 r61;refine c8 (by grind) e3 ?_;right;rename_i t H11 hs11;have z6:Sep (tu t (Rw.tl (.sp (.take b c)))::_) _:=hs11.toT;exact q t (.sp (.take b c)) _ True.intro ((aN (n:=m+10) (z6.pull (A:=hand h _) (by symm)) nofun).sub (by ac_nf))
 right;refine bO (λg4=>?_) (λg4=>?_)
 .right;rename_i l4 H4 hs4;rcases(by omega:wy=11\/wy=12) with rfl|rfl
  .right;rename_i t H11 hs11;have z6:Sep (tu t (Rw.tl (.sp (.read b)))::_) _:=hs11.toT;exact q t (.sp (.read b)) _ True.intro ((aN (n:=m+10) (z6.pull (A:=hand h _) (by symm)) nofun).sub (by ac_nf))
  .right;rename_i t H11 hs11;have z6:Sep (tu t (Rw.tl (.sp (.write b)))::_) _:=hs11.toT;exact q t (.sp (.write b)) _ True.intro ((aN (n:=m+10) (z6.pull (A:=hand h _) (by symm)) nofun).sub (by ac_nf))
 walk_at "gd";rename_i r6 H6 r60 r61 hs6 l7 H7 hs7 r8 H8 r80 r81 hs8;obtain⟨o,e3,ho⟩:=Bl r80 r81;refine c8 (by grind) e3 ?_;right;rename_i t H11 hs11;have z6:Sep (tu t (Rw.tl (.hop r6 o))::_) _:=hs11.toT;exact q t (.hop r6 o) _ ⟨⟨by omega,by omega⟩,ho⟩ ((aN (n:=m+10) (z6.pull (A:=hand h _) (by symm)) nofun).sub (by ac_nf))
def uH {t:Addr}(r:Rw)(ro:Ro K R)(hk:5<=k)(ok:r.ok)(z:Sep (tu t r.tl::O) H)(q:∀ d H',Sep (bS R d r::tu t r.tl::O) H'->Q (ul d) H'):ae tab R k 56 [ul t] H Q E:=by
 delta gg;cases r with
 |lg w=>
  have f:∀ x ∈ ([("set":Str),"add","take","read","write","hop"]),gF (v0 w.s) (v0 x)=false:=by cases w<;>decide+kernel
  right;refine ao (f "set" (by decide)) ?_;right;refine ao (f "add" (by decide)) ?_;right;refine ao (f "take" (by decide)) ?_;right;refine ao (f "read" (by decide)) ?_;right;refine ao (f "write" (by decide)) ?_;right;refine ao (f "hop" (by decide)) ?_;right;exact AA w nofun z q
 |hop n o=>
  right
  repeat walk_at "sc"
  intro d dx g1 g2 g3;exact pC ro nofun ok.1.1 ok.1.2 ok.2 (ef z g1 g2 g3) (λH2 z2=>⟨rfl,q d H2 z2⟩)
 |sp s=>
  cases s with
  |set n i=>
   right
   repeat walk_at "sc"
   intro d dx g1 g2 g3;exact CK ro nofun ok.1 ok.2 (ef z g1 g2 g3) (λH2 z2=>⟨rfl,q d H2 z2⟩)
  |add n i=>
   right
   repeat walk_at "sc"
   intro d dx g1 g2 g3;exact C5 ro nofun ok.1 ok.2 (ef z g1 g2 g3) (λH2 z2=>⟨rfl,q d H2 z2⟩)
  |take n m=>
   right
   repeat walk_at "sc"
   intro d dx g1 g2 g3;exact Dn ro nofun (ef z g1 g2 g3) (λH2 z2=>⟨rfl,q d H2 z2⟩)
  |read n=>
   right
   repeat walk_at "sc"
   intro d dx g1 g2 g3;exact CI ro nofun (ef z g1 g2 g3) (λH2 z2=>⟨rfl,q d H2 z2⟩)
  |write n=>
   right
   repeat walk_at "sc"
   intro d dx g1 g2 g3;exact CJ ro nofun (ef z g1 g2 g3) (λH2 z2=>⟨rfl,q d H2 z2⟩)
def az {A:ai}:∀ {L O Δ:List ai},au A O Δ->au A (L++O) (L++Δ)
 | [],_,_,h=>h
 |B::L,_,_,h=>.t (az h)
def mQ {α:Type}{f:α->ai}{x:α}:∀ {l:List α},x ∈ l->∃ Δ,∀ O,au (f x) (l.map f++O) (Δ++O)
 |y::l,h=>by
  rcases lv.mp h with rfl|h
  .exact⟨l.map f,λO=>.e⟩
  .obtain⟨Δ,hp⟩:=mQ (f:=f) h;exact⟨f y::Δ,λO=>.t (hp O)⟩
def Sep.mv:∀ {L P Δ O:List ai}{H:Hp},Sep (P++(Δ++(L++O))) H->Sep (P++(L++(Δ++O))) H
 | [],_,_,_,_,z=>z
 |A::L,P,Δ,O,H,z=>(Sep.mv (L:=L) (P:=A::P) (Δ:=Δ) (O:=O) (z.pull (az (az .e)))).push (az .e)
def j3 {cs:List Nat}{j:Nat}{fs:List (Str×V)}{b:Bool}(s:Sep O H)(ho:G.T.oc.contains j=true)(e:H a=some (wn (G.R.cad j) dx fs))(hb:anyS G j cs=some b)(q:∀ p H',Sep (tu p (cs.map λc=>ul (G.R.cad c))::O) H'->Q (.bl b) H'):∀ p,H p=none->ly G cs (ul a) (upd H p (wf (cs.map λc=>ul (G.R.cad c)))) Q:=λp hp=>by
 unfold ly;refine .inr ⟨a,j,b,rfl,.inl ⟨ho,dx,fs,?_⟩,hb,q p _ (s.fN hp)⟩;rw[ah λz=>by rw[z,hp]at e;cases e];exact e
inductive Itm where
 |row (r:Rw)|dO (w:Str)|tms (n:Int) (b:List Itm)|whn (o:Int) (b c:List Itm)
abbrev jJ (ns:List Str):Nat->Itm->Prop
 |_,.row r=>r.ok
 |_,.dO w=>w ∈ ns
 |n+1,.tms m b=>(0<=m/\m<=9)/\b.length<=30/\∀ i ∈ b,jJ ns n i
 |n+1,.whn o b c=>(o=0\/o=1)/\(b.length<=30/\∀ i ∈ b,jJ ns n i)/\c.length<=30/\∀ i ∈ c,jJ ns n i
 |0,.tms _ _=>False
 |0,.whn _ _ _=>False
noncomputable abbrev cP (ns:List Str)(n:Nat)(b:List Itm):Prop:=b.length<=30/\∀ i ∈ b,jJ ns n i
abbrev iM (c:Str->Int):Nat->Itm->Int
 |_,.row _=>1
 |_,.dO w=>c w
 |n+1,.tms m b=>m*(b.map (iM c n)).sum
 |n+1,.whn _ b d=>1+(b.map (iM c n)).sum+(d.map (iM c n)).sum+(if d.length=0 then 0 else 1)
 |0,.tms _ _=>0
 |0,.whn _ _ _=>0
noncomputable abbrev aP (c:Str->Int)(n:Nat)(b:List Itm):Int:=(b.map (iM c n)).sum
abbrev aw (P:V->α->Prop)(vs:List V)(b:List α):Prop:=vs.length=b.length/\∀ (j:Nat) v i,vs[j]? =some v->b[j]? =some i->P v i
def aw.map {P P':V->α->Prop}{b:List α}(h:aw P vs b)(f:∀ v i,P v i->P' v i):aw P' vs b:=⟨h.1,λj v i h1 h2=>f v i (h.2 j v i h1 h2)⟩
def aw.nil {P:V->α->Prop}:aw P [] []:=⟨rfl,λj v i h _=>nomatch h⟩
def aw.snoc {P:V->α->Prop}{b:List α}{i:α}(h:aw P vs b)(p:P v i):aw P (vs++[v]) (b++[i]):=by
 refine⟨by rw[ci,ci,h.1];rfl,λj x y h1 h2=>?_⟩;rcases Nat.lt_trichotomy j vs.length with hj|hj|hj
 .rw[getElem?_append_left hj]at h1;rw[getElem?_append_left (h.1▸hj)]at h2;exact h.2 j x y h1 h2
 .subst hj;rw[getElem?_append_right (pi _),Nat.sub_self]at h1;rw[getElem?_append_right (Nat.le_of_eq h.1.symm),h.1,Nat.sub_self]at h2;cases h1;cases h2;exact p
 .rw[List.getElem?_eq_none (by rw[ci];simp;omega)]at h1;cases h1
def aw.get {P:V->α->Prop}{b:List α}{j:Nat}(h:aw P vs b)(e:vs[j]? =some v):∃ i,b[j]? =some i/\P v i:=by
 have hj:=(ss.mp e).1;have e2:b[j]? =some (b[j]'(by rw[<-h.1];exact hj)):=lf _;exact⟨_,e2,h.2 j v _ e e2⟩
abbrev gp (F:List ai):Nat->V->Itm->Prop
 |_,v,.row r=>∃ t,v=ul t/\tu t r.tl ∈ F
 |_,v,.dO w=>∃ t,v=ul t/\tu t [v0 "do",v0 w] ∈ F
 |n+1,v,.tms m b=>∃ t l vs,v=ul t/\tu t [v0 "times",ut m,ul l] ∈ F/\pt l (v6 vs) ∈ F/\aw (gp F n) vs b
 |n+1,v,.whn o b c=>∃ t l vs l' vs',v=ul t/\tu t [v0 "when",ut o,ul l,ul l'] ∈ F/\(pt l (v6 vs) ∈ F/\aw (gp F n) vs b)/\pt l' (v6 vs') ∈ F/\aw (gp F n) vs' c
 |0,_,.tms _ _=>False
 |0,_,.whn _ _ _=>False
abbrev gZ (R:Rt)(F:List ai):Nat->V->Itm->Prop
 |_,v,.row r=>∃ d,v=ul d/\bS R d r ∈ F
 |_,v,.dO w=>∃ d dx,v=ul d/\pt d (wn (R.cad 11) dx [("called",v0 w)]) ∈ F
 |n+1,v,.tms m b=>∃ d dx l vs,v=ul d/\pt d (wn (R.cad 12) dx [("many",ut m),("block",ul l)]) ∈ F/\pt l (v6 vs) ∈ F/\aw (gZ R F n) vs b
 |n+1,v,.whn o b c=>∃ d dx l vs l' vs',v=ul d/\pt d (wn (R.cad 13) dx [("on",ut o),("block",ul l),("other",ul l')]) ∈ F/\(pt l (v6 vs) ∈ F/\aw (gZ R F n) vs b)/\pt l' (v6 vs') ∈ F/\aw (gZ R F n) vs' c
 |0,_,.tms _ _=>False
 |0,_,.whn _ _ _=>False
noncomputable abbrev gb (F:List ai)(n:Nat)(v:V)(b:List Itm):Prop:=∃ l vs,v=ul l/\pt l (v6 vs) ∈ F/\aw (gp F n) vs b
noncomputable abbrev k8 (R:Rt)(F:List ai)(n:Nat)(v:V)(b:List Itm):Prop:=∃ l vs,v=ul l/\pt l (v6 vs) ∈ F/\aw (gZ R F n) vs b
def gp.mono (h:∀ A ∈ F,A ∈ F'):∀ {n:Nat}{v:V}{i:Itm},gp F n v i->gp F' n v i:=by
 intro n
 induction n with
 |zero=>
  intro v i;cases i with
  |row r=>exact λ⟨t,e,m⟩=>⟨t,e,h _ m⟩
  |dO w=>exact λ⟨t,e,m⟩=>⟨t,e,h _ m⟩
  |tms m b=>exact λz=>z
  |whn o b c=>exact λz=>z
 |succ n ih=>
  intro v i;cases i with
  |row r=>exact λ⟨t,e,m⟩=>⟨t,e,h _ m⟩
  |dO w=>exact λ⟨t,e,m⟩=>⟨t,e,h _ m⟩
  |tms m b=>exact λ⟨t,l,vs,e,m1,m2,a⟩=>⟨t,l,vs,e,h _ m1,h _ m2,a.map λv i=>ih⟩
  |whn o b c=>exact λ⟨t,l,vs,l',vs',e,m1,⟨m2,a⟩,m3,a'⟩=>⟨t,l,vs,l',vs',e,h _ m1,⟨h _ m2,a.map λv i=>ih⟩,h _ m3,a'.map λv i=>ih⟩
def gZ.mono (h:∀ A ∈ F,A ∈ F'):∀ {n:Nat}{v:V}{i:Itm},gZ R F n v i->gZ R F' n v i:=by
 intro n
 induction n with
 |zero=>
  intro v i;cases i with
  |row r=>exact λ⟨t,e,m⟩=>⟨t,e,h _ m⟩
  |dO w=>exact λ⟨t,x,e,m⟩=>⟨t,x,e,h _ m⟩
  |tms m b=>exact λz=>z
  |whn o b c=>exact λz=>z
 |succ n ih=>
  intro v i;cases i with
  |row r=>exact λ⟨t,e,m⟩=>⟨t,e,h _ m⟩
  |dO w=>exact λ⟨t,x,e,m⟩=>⟨t,x,e,h _ m⟩
  |tms m b=>exact λ⟨t,x,l,vs,e,m1,m2,a⟩=>⟨t,x,l,vs,e,h _ m1,h _ m2,a.map λv i=>ih⟩
  |whn o b c=>exact λ⟨t,x,l,vs,l',vs',e,m1,⟨m2,a⟩,m3,a'⟩=>⟨t,x,l,vs,l',vs',e,h _ m1,⟨h _ m2,a.map λv i=>ih⟩,h _ m3,a'.map λv i=>ih⟩
variable {b:List Itm}
def gb.mono {n:Nat}(h:∀ A ∈ F,A ∈ F'):gb F n v b->gb F' n v b:=λ⟨l,vs,e,m,a⟩=>⟨l,vs,e,h _ m,a.map λv i=>gp.mono h⟩
def k8.mono {n:Nat}(h:∀ A ∈ F,A ∈ F'):k8 R F n v b->k8 R F' n v b:=λ⟨l,vs,e,m,a⟩=>⟨l,vs,e,h _ m,a.map λv i=>gZ.mono h⟩
def jJ.mono {ns':List Str}(h:∀ w ∈ ns,w ∈ ns'):∀ {n:Nat}{i:Itm},jJ ns n i->jJ ns' n i:=by
 intro n
 induction n with
 |zero=>
  intro i;cases i with
  |row r=>exact λz=>z
  |dO w=>exact λz=>h _ z
  |tms m b=>exact λz=>z
  |whn o b c=>exact λz=>z
 |succ n ih=>
  intro i;cases i with
  |row r=>exact λz=>z
  |dO w=>exact λz=>h _ z
  |tms m b=>exact λ⟨e,l,a⟩=>⟨e,l,λi hi=>ih (a i hi)⟩
  |whn o b c=>exact λ⟨e,⟨l,a⟩,l',a'⟩=>⟨e,⟨l,λi hi=>ih (a i hi)⟩,l',λi hi=>ih (a' i hi)⟩
def iM.ext {c':Str->Int}(h:∀ w ∈ ns,c w=c' w):∀ {n:Nat}{i:Itm},jJ ns n i->iM c n i=iM c' n i:=by
 intro n
 induction n with
 |zero=>
  intro i;cases i with
  |row r=>exact λ_=>rfl
  |dO w=>exact λz=>h _ z
  |tms m b=>exact λz=>z.elim
  |whn o b c=>exact λz=>z.elim
 |succ n ih=>
  have hb:∀ b:List Itm,(∀ i ∈ b,jJ ns n i)->b.map (iM c n)=b.map (iM c' n):=λb hb=>List.map_congr_left λi hi=>ih (hb i hi)
  intro i;cases i with
  |row r=>exact λ_=>rfl
  |dO w=>exact λz=>h _ z
  |tms m b=>
   rintro⟨e,l,a⟩;show m*(b.map (iM c n)).sum=m*(b.map (iM c' n)).sum;rw[hb b a]
  |whn o b d=>
   rintro⟨e,⟨l,a⟩,l',a'⟩;show 1+(b.map (iM c n)).sum+(d.map (iM c n)).sum+_=1+(b.map (iM c' n)).sum+(d.map (iM c' n)).sum+_;rw[hb b a,hb d a']
def dC {A:ai}:∀ {F:List ai},A ∈ F->∃ Δ,au A F Δ
 |B::F,h=>by
  rcases lv.mp h with rfl|h
  .exact⟨F,.e⟩
  .obtain⟨Δ,p⟩:=dC h;exact⟨B::Δ,.t p⟩
def fz {o:HO}{G:List ai}(h:pt a o ∈ F)(z:Sep (G++F) H):H a=some o:=let⟨_,p⟩:=dC h;z.get (az p)
def fO {t:Addr}{G:List ai}(h:tu t xs ∈ F)(z:Sep (G++F) H):H t=some (wf xs):=let⟨_,p⟩:=dC h;z.Ag (az p)
abbrev Nm (w:Str):Prop:=(1<=w.length/\w.length<=8)/\∀ c ∈ w.cps.toList,97<=c/\c<=122
def sx:((List.range 26).all λj=>!(Builtin.Str.occurrences ("abcdefghijklmnopqrstuvwxyz":Str) ⟨#[j+97]⟩ 0 ("abcdefghijklmnopqrstuvwxyz":Str).length 1).isEmpty)=true:=by decide+kernel
def Eu {i j:Str}{b:Bool}(e:(!(Builtin.Str.occurrences j i 0 j.length 1).isEmpty)=b)(q:Q (.bl b) H):mf K false (v0 i) (v0 j) H Q:=by unfold mf;exact⟨i,rfl,by rw[if_neg (by decide),e];exact q⟩
def xB (hz:z.length<=100000)(q:Q (ut z.length) H):gM G .len [v0 z] H Q:=by unfold gM;exact⟨_,z.length,rfl,⟨eO nofun,rfl⟩,q⟩
def wg {c:Nat}(h:97<=c/\c<=122)(q:Q (.bl true) H):mf K false (v0 ⟨#[c]⟩) (v0 ("abcdefghijklmnopqrstuvwxyz":Str)) H Q:=by
 refine Eu ?_ q;have z:=all_eq_true.mp sx (c-97) (mem_range.mpr nofun);rw[show c-97+97=c by omega]at z;exact z
def uL (ro:Ro K R)(hk:1<=k)(hw:Nm w)(z:Sep O H)(q:∀ H',Sep O H'->Q (.bl true) H'):ae tab R k 28 [v0 w] H Q E:=by
 obtain⟨⟨h1,h2⟩,h3⟩:=hw;delta jG;right;refine xB nofun ?_;right;refine aQ (decide_eq_true nofun) ?_;right;simp only[ro.g_LONGEST_NAME];right;refine aQ (decide_eq_true nofun) ?_;right;refine AJ (z:=w) (by show w.length<=1000;omega) (λD ys H=>ys=sn ys.length (.bl true)/\Sep (pt D (v6 ys)::O) H) (λD hD=>⟨rfl,z.new (o:=v6 []) hD⟩) (λD ys c H hc hI=>?_) (λD ys H hl hI=>?_)
 .obtain⟨e,z1⟩:=hI;have hcm:c ∈ w.cps.toList:=by
   have:=Array.mem_of_getElem? hc;exact Array.mem_def.mp this |> λh=>h
  right;simp only[ro.g_LETTERS];left;refine wg (h3 c hcm) ?_;have hyl:ys.length<w.length:=(Array.getElem?_eq_some_iff.mp hc).1;refine jL.mk z1.at nofun ⟨?_,z1.set rfl⟩;rw[ci,f8,List.replicate_succ',<-e]
 .obtain⟨e,z1⟩:=hI;left;refine sg (bs:=sn ys.length true) (K:=K) rfl (by rw[z1.at,e,List.map_replicate,List.length_replicate]) ?_;rw[show(sn ys.length true).all id=true by rw[all_eq_true];intro x hx;rw[List.eq_of_mem_replicate hx];rfl];exact q _ z1.drop
abbrev aJ (cs:List (Str×Int))(w:Str):Int:=(cs.lookup w).getD 0
abbrev bA (cs:List (Str×Int)):List (Key×V):=cs.map λp=>(Sum.inr p.1,ut p.2)
def jW {w:Str}:∀ {cs:List (Str×Int)},w ∈ cs.map (·.1)->a8 (bA cs) (.inr w)=some (ut (aJ cs w))
 |(x,n)::cs,h=>by
  unfold aJ;rw[lookup_cons]
  by_cases e:w=x
  .subst e;rw[beq_self_eq_true];exact cu rfl
  .rw[beq_eq_false_iff_ne.mpr e];refine(cV (λz=>e (Sum.inr.inj z).symm)).trans (jW ?_);rcases lv.mp h with h|h
   .exact absurd h e
   .exact h
noncomputable abbrev aM (R:Rt)(B dx d1 d2:Addr)(kb:List (Key×V))(cs:List (Str×Int))(O:List ai):List ai:=pt B (wn (R.cad 14) dx [("blocks",ul d1),("counts",ul d2)])::pt d1 (.dK kb)::pt d2 (.dK (bA cs))::O
section
variable {B dx d1 d2:Addr}{kb:List (Key×V)}{cs:List (Str×Int)}{ns:List Str}{F G:List ai}{v:V}{n:Nat}
def hG (hk:1<=k)(hw:w ∈ cs.map (·.1))(z:Sep (aM R B dx d1 d2 kb cs O) H)(q:Q (ut (aJ cs w)) H):ae tab R k 37 [ul B,v0 w] H Q E:=by
 delta bQ;right;exact zW (k:=.inr w) (z.get .k2) (jW hw) q
def oj (r:Rw):tab.oc.contains r.cl=true/\tab.sub.lookup (r.cl,11)=some false/\tab.sub.lookup (r.cl,12)=some false/\tab.sub.lookup (r.cl,13)=some false:=by
 cases r with
 |lg w=>cases w<;>exact⟨rfl,rfl,rfl,rfl⟩
 |sp s=>cases s<;>exact⟨rfl,rfl,rfl,rfl⟩
 |hop n o=>exact⟨rfl,rfl,rfl,rfl⟩
def DX {r:Rw}(h:bS R d r ∈ F)(z:Sep (G++F) H):∃ dx fs,H d=some (wn (R.cad r.cl) dx fs):=let⟨_,p⟩:=dC h;DO z (az p)
abbrev uf (K:W.Frag)(R:Rt)(B dx d1 d2:Addr)(kb:List (Key×V))(cs:List (Str×Int))(ns:List Str)(F:List ai)(n:Nat):Prop:=∀ {k:Nat}{G:List ai}{v:V}{b:List Itm}{H:Hp}{Q:VK}{E:XK},3*n+3<=k->cP ns n b->k8 R F n v b->Sep (aM R B dx d1 d2 kb cs (G++F)) H->(∀ H',Sep (aM R B dx d1 d2 kb cs (G++F)) H'->Q (ut (aP (aJ cs) n b)) H')->ae tab R k 32 [ul B,v] H Q E
abbrev za (K:W.Frag)(R:Rt)(B dx d1 d2:Addr)(kb:List (Key×V))(cs:List (Str×Int))(ns:List Str)(F:List ai)(n:Nat):Prop:=∀ {k:Nat}{G:List ai}{v:V}{i:Itm}{H:Hp}{Q:VK}{E:XK},3*n+2<=k->jJ ns n i->gZ R F n v i->Sep (aM R B dx d1 d2 kb cs (G++F)) H->(∀ H',Sep (aM R B dx d1 d2 kb cs (G++F)) H'->Q (ut (iM (aJ cs) n i)) H')->ae tab R k 30 [ul B,v] H Q E
def pD (ro:Ro K R)(hns:∀ w ∈ ns,w ∈ cs.map (·.1)) (ih:∀ m,n=m+1->uf K R B dx d1 d2 kb cs ns F m):za K R B dx d1 d2 kb cs ns F n:=by
 intro k G v i H Q E hk ok hi z q;have zg:Sep ([pt B (wn (R.cad 14) dx [("blocks",ul d1),("counts",ul d2)]),pt d1 (.dK kb),pt d2 (.dK (bA cs))]++G++F) H:=by simpa only [le,cons_append,nil_append] using z
 delta e9;cases i with
 |row r=>
  obtain⟨d,rfl,m⟩:∃ d,v=ul d/\bS R d r ∈ F:=by cases n<;>exact hi
  obtain⟨x,fs,e⟩:=DX m zg;obtain⟨o1,o2,o3,o4⟩:=oj r;right;refine aK e o1 o2 ?_;right;refine aK e o1 o3 ?_;right;refine aK e o1 o4 ?_;right;have:=q H z;cases n<;>exact this
 |dO w=>
  obtain⟨d,x,rfl,m⟩:∃ d dx,v=ul d/\pt d (wn (R.cad 11) dx [("called",v0 w)]) ∈ F:=by cases n<;>exact hi
  have ok':w ∈ ns:=by cases n<;>exact ok
  have e:=fz m zg;right;refine aK e rfl rfl ?_;right;refine⟨_,14,_,_,_,rfl,z.at,rfl,rfl,?_⟩;right;refine aA e rfl rfl rfl ?_;refine hG nofun (hns w ok') z ?_;have:=q H z;cases n<;>exact this
 |tms m b=>
  cases n with
  |zero=>exact hi.elim
  |succ n=>
   obtain⟨d,x,l,vs,rfl,m1,m2,a⟩:=hi;have e:=fz m1 zg;right;refine aK e rfl rfl ?_;right;refine aK e rfl rfl ?_;right;refine aA e rfl rfl rfl ?_;right;refine aA e rfl rfl rfl ?_;right;refine ih n rfl nofun ok.2 ⟨l,vs,rfl,m2,a⟩ z (λH' z'=>?_);left;exact⟨.inl ⟨by have:=ok.1.1;omega,by have:=ok.1.2;omega⟩,q H' z'⟩
 |whn o b c=>
  cases n with
  |zero=>exact hi.elim
  |succ n=>
   obtain⟨d,x,l,vs,l',vs',rfl,m1,⟨m2,a⟩,m3,a'⟩:=hi;have e:=fz m1 zg;right;refine aK e rfl rfl ?_;right;refine aK e rfl rfl ?_;right;refine aK e rfl rfl ?_;right;delta eG;right;refine aA e rfl rfl rfl ?_;right;refine ih n rfl nofun ok.2.1 ⟨l,vs,rfl,m2,a⟩ z (λH' z'=>?_);have zg':Sep ([pt B (wn (R.cad 14) dx [("blocks",ul d1),("counts",ul d2)]),pt d1 (.dK kb),pt d2 (.dK (bA cs))]++G++F) H':=by simpa only [le,cons_append,nil_append] using z'
   have e':=fz m1 zg';have e3:=fz m3 zg';right;refine aA e' rfl rfl rfl ?_;right;refine bG e3 ?_;right;refine cL (λg=>?_) (λg=>?_)
   .right;have:=q H' z';have hc:c.length=0:=by rw[<-a'.1];omega
    have hc2:c=[]:=length_eq_zero_iff.mp hc;subst hc2;have e:iM (aJ cs) (n+1) (.whn o b [])=1+aP (aJ cs) n b:=by show 1+(b.map _).sum+0+(if 0=0 then 0 else 1)=1+(b.map _).sum;simp
    rw[e]at this;exact this
   .right;refine aA e' rfl rfl rfl ?_;right;refine ih n rfl nofun ok.2.2 ⟨l',vs',rfl,m3,a'⟩ z' (λH2 z2=>?_);have:=q H2 z2;have hc:c.length≠0:=by rw[<-a'.1];omega
    have e:iM (aJ cs) (n+1) (.whn o b c)=1+aP (aJ cs) n b+1+aP (aJ cs) n c:=by show 1+(b.map _).sum+(c.map _).sum+(if c.length=0 then 0 else 1)=1+(b.map _).sum+1+(c.map _).sum;rw[if_neg hc];omega
    rw[e]at this;exact this
def lJ (ro:Ro K R)(hi:za K R B dx d1 d2 kb cs ns F n):uf K R B dx d1 d2 kb cs ns F n:=by
 intro k G v b H Q E hk ok hv z q;obtain⟨l,vs,rfl,m,a⟩:=hv;have zg:∀ {H:Hp}{A:List ai},Sep (A++aM R B dx d1 d2 kb cs (G++F)) H->H l=some (v6 vs):=λ{H A} z=>by
  refine fz (G:=A++[pt B (wn (R.cad 14) dx [("blocks",ul d1),("counts",ul d2)]),pt d1 (.dK kb),pt d2 (.dK (bA cs))]++G) m ?_;simpa only [le,cons_append,nil_append] using z
 delta dI;right;refine i5 (zg (A:=[]) z) ?_;have hl:vs.length<=30:=by rw[a.1];exact ok.1
 refine jZ (xs:=vs) nofun (λD ys H=>ys=((b.take ys.length).map (iM (aJ cs) n)).map ut/\Sep (pt D (v6 ys)::aM R B dx d1 d2 kb cs (G++F)) H) (λD ys H hI=>aF.of (zg (A:=[_]) hI.2)) (λD hD=>⟨rfl,z.new (o:=v6 []) hD⟩) (λD ys x H hx hI=>?_) (λD ys H hl2 hI=>?_)
 .obtain⟨e,z1⟩:=hI;obtain⟨i,hb,hi2⟩:=a.get hx;have hyl:=(ss.mp hx).1;have z2:Sep (aM R B dx d1 d2 kb cs ((pt D (v6 ys)::G)++F)) H:=z1.sub (.cons .k1 (.cons .k1 (.cons .k1 .refl)));right;refine hi (k:=k-1) (G:=pt D (v6 ys)::G) nofun (ok.2 i (cr hb)) hi2 z2 (λH' z3=>?_);have z4:Sep (pt D (v6 ys)::aM R B dx d1 d2 kb cs (G++F)) H':=z3.pull .k3;refine jL.mk z4.at nofun ⟨?_,z4.set rfl⟩;rw[ci,f8,take_succ,hb];simp only[Option.toList_some,dL,map_cons,List.map_nil];rw[<-e]
 .obtain⟨e,z1⟩:=hI;left;refine zP (K:=K) (ns:=b.map (iM (aJ cs) n)) rfl ?_ (q _ z1.drop);rw[z1.at,e,hl2,a.1,take_of_length_le (pi _)]
def vK (ro:Ro K R)(hns:∀ w ∈ ns,w ∈ cs.map (·.1)):∀ n,uf K R B dx d1 d2 kb cs ns F n
 |0=>lJ ro (pD ro hns λm e=>absurd e nofun)
 |n+1=>lJ ro (pD ro hns λm e=>by cases e;exact vK ro hns n)
end
def C0 (e:Rd H a (.dK kvs))(q:Q (.bl (a8 kvs x).isSome) H):mf K false (kV x) (ul a) H Q:=by unfold mf;exact .inr (.inl ⟨_,(show m8 H a (kV x) (a8 kvs x) from .inl ⟨kvs,x,e,rfl,rfl⟩),q⟩)
def sr (h:x ∈ kvs.map (·.1)):(a8 kvs x).isSome=true:=by
 rw[<-fw,any_eq_true];obtain⟨kv,m,e⟩:=List.mem_map.mp h;exact⟨kv,m,decide_eq_true e⟩
def t8 (h:¬ x ∈ kvs.map (·.1)):(a8 kvs x).isSome=false:=by
 rw[<-fw,Bool.eq_false_iff];intro z;obtain⟨kv,m,e⟩:=any_eq_true.mp z;exact h (List.mem_map.mpr ⟨kv,m,of_decide_eq_true e⟩)
section
variable {B dx d1 d2:Addr}{kb:List (Key×V)}{cs:List (Str×Int)}{ns:List Str}{F G:List ai}{v:V}{n:Nat}
def yQ (hk:1<=k)(z:Sep (aM R B dx d1 d2 kb cs O) H)(q:Q (.bl (a8 kb (.inr w)).isSome) H):ae tab R k 34 [ul B,v0 w] H Q E:=by
 delta iN;right;exact C0 (x:=.inr w) (.inl (z.get .k1)) q
abbrev su (K:W.Frag)(R:Rt)(B dx d1 d2:Addr)(kb:List (Key×V))(cs:List (Str×Int))(ns:List Str)(F:List ai)(n:Nat):Prop:=∀ {k:Nat}{G:List ai}{v:V}{b:List Itm}{H:Hp}{Q:VK}{E:XK},n+2<=k->cP ns n b->k8 R F n v b->Sep (aM R B dx d1 d2 kb cs (G++F)) H->(∀ H',Sep (aM R B dx d1 d2 kb cs (G++F)) H'->Q v4 H')->ae tab R k 29 [ul B,v] H Q E
def sG (ro:Ro K R)(hns:∀ w ∈ ns,Sum.inr w ∈ kb.map (·.1)) (ih:∀ m,n=m+1->su K R B dx d1 d2 kb cs ns F m):su K R B dx d1 d2 kb cs ns F n:=by
 intro k G v b H Q E hk ok hv z q;obtain⟨l,vs,rfl,m,a⟩:=hv;have zg:∀ {H:Hp}{d:Addr}{o:HO}{A:List ai},pt d o ∈ F->Sep (A++aM R B dx d1 d2 kb cs (G++F)) H->H d=some o:=λ{H d o A} m z=>by
  refine fz (G:=A++[pt B (wn (R.cad 14) dx [("blocks",ul d1),("counts",ul d2)]),pt d1 (.dK kb),pt d2 (.dK (bA cs))]++G) m ?_;simpa only [le,cons_append,nil_append] using z
 delta dS;right;refine i5 (zg (A:=[]) m z) ?_;have hl:vs.length<=30:=by rw[a.1];exact ok.1
 refine gW (xs:=vs) (λj U H=>∃ u,U=[some (ul B),some (ul l),u]/\Sep (aM R B dx d1 d2 kb cs (G++F)) H) ⟨_,rfl,z⟩ ?_ ?_ ?_
 .rintro j U H ⟨u,rfl,z⟩;exact aF.of (zg (A:=[]) m z)
 .rintro j x U H hx ⟨u,rfl,z⟩;obtain⟨i,hb,hi⟩:=a.get hx;have ok:=ok.2 i (cr hb);cases i with
  |row r=>
   obtain⟨d,rfl,m⟩:∃ d,x=ul d/\bS R d r ∈ F:=by cases n<;>exact hi
   obtain⟨y,fs,e⟩:=DX (G:=[pt B (wn (R.cad 14) dx [("blocks",ul d1),("counts",ul d2)]),pt d1 (.dK kb),pt d2 (.dK (bA cs))]++G) m (by simpa only [le,cons_append,nil_append] using z);obtain⟨o1,o2,o3,o4⟩:=oj r;right;refine aK e o1 o2 ?_;right;refine λp hp=>j3 z o1 e (b:=false) (by show(match tab.sub.lookup (r.cl,12) with|some true=>some true|some false=>(match tab.sub.lookup (r.cl,13) with|some true=>some true|some false=>some false|none=>none)|none=>none)=_;rw[o3,o4]) (λp H2 z2=>?_) p hp
   right;obtain⟨y,fs,e⟩:=DX (G:=[pt B (wn (R.cad 14) dx [("blocks",ul d1),("counts",ul d2)]),pt d1 (.dK kb),pt d2 (.dK (bA cs))]++G) m (by simpa only [le,cons_append,nil_append] using z2.drop);refine aK e o1 o4 ?_;right;exact⟨_,rfl,z2.drop⟩
  |dO w=>
   obtain⟨d,y,rfl,m⟩:∃ d dx,x=ul d/\pt d (wn (R.cad 11) dx [("called",v0 w)]) ∈ F:=by cases n<;>exact hi
   have ok':w ∈ ns:=by cases n<;>exact ok
   have e:=zg (A:=[]) m z;right;refine aK e rfl rfl ?_;right;refine⟨_,14,_,_,_,rfl,z.at,rfl,rfl,?_⟩;right;refine aA e rfl rfl rfl ?_;refine yQ nofun z ?_;rw[sr (hns w ok')];right;refine λp hp=>j3 z rfl e (b:=false) rfl (λp H2 z2=>?_) p hp
   right;refine aK (zg (A:=[]) m z2.drop) rfl rfl ?_;right;exact⟨_,rfl,z2.drop⟩
  |tms t c=>
   cases n with
   |zero=>exact hi.elim
   |succ n=>
    obtain⟨d,y,l1,vs1,rfl,m1,m2,a1⟩:=hi;have e:=zg (A:=[]) m1 z;right;refine aK e rfl rfl ?_;right;refine λp hp=>j3 z rfl e (b:=true) rfl (λp H2 z2=>?_) p hp
    right;refine aA (zg (A:=[]) m1 z2.drop) rfl rfl rfl ?_;right;refine ih n rfl nofun ok.2 ⟨l1,vs1,rfl,m2,a1⟩ z2.drop (λH3 z3=>?_);right;refine aK (zg (A:=[]) m1 z3) rfl rfl ?_;right;exact⟨_,rfl,z3⟩
  |whn t c c2=>
   cases n with
   |zero=>exact hi.elim
   |succ n=>
    obtain⟨d,y,l1,vs1,l2,vs2,rfl,m1,⟨m2,a1⟩,m3,a2⟩:=hi;have e:=zg (A:=[]) m1 z;right;refine aK e rfl rfl ?_;right;refine λp hp=>j3 z rfl e (b:=true) rfl (λp H2 z2=>?_) p hp
    right;refine aA (zg (A:=[]) m1 z2.drop) rfl rfl rfl ?_;right;refine ih n rfl nofun ok.2.1 ⟨l1,vs1,rfl,m2,a1⟩ z2.drop (λH3 z3=>?_);right;refine aK (zg (A:=[]) m1 z3) rfl rfl ?_;right;refine aA (zg (A:=[]) m1 z3) rfl rfl rfl ?_;right;refine ih n rfl nofun ok.2.2 ⟨l2,vs2,rfl,m3,a2⟩ z3 (λH4 z4=>?_);right;exact⟨_,rfl,z4⟩
 .rintro U H ⟨u,rfl,z⟩;right;exact q _ z
def nZ (ro:Ro K R)(hns:∀ w ∈ ns,Sum.inr w ∈ kb.map (·.1)):∀ n,su K R B dx d1 d2 kb cs ns F n
 |0=>sG ro hns λm e=>absurd e nofun
 |n+1=>sG ro hns λm e=>by cases e;exact nZ ro hns n
end
def nu {x:α}{xs:List α}:gX (x::xs) 0=some x:=L2.g8 (xs:=x::xs) (j:=0) rfl
def ne_nil {b:Addr}(e1:H a=some (v6 xs))(e2:H b=some (v6 []))(ne:a≠b)(q:Q (.bl (!decide (xs.length=0))) H):cQ K true (ul a) (ul b) H Q:=by
 by_cases h:xs.length=0
 .rw[decide_eq_true h]at q;refine kY (.ll (n:=0) (e:=λ_=>true) (aF.of e1) (aF.of e2) h (λj x y _ hy=>nomatch hy)) (by decide) ne ?_;rw[h];exact q
 .rw[decide_eq_false h]at q;exact kY (.lln (n:=0) (aF.of e1) (aF.of e2) h) (by decide) ne q
def eq_nil {b:Addr}(e1:H a=some (v6 xs))(e2:H b=some (v6 []))(ne:a≠b)(q:Q (.bl (decide (xs.length=0))) H):cQ K false (ul a) (ul b) H Q:=by
 by_cases h:xs.length=0
 .rw[decide_eq_true h]at q;refine tj (.ll (n:=0) (e:=λ_=>true) (aF.of e1) (aF.of e2) h (λj x y _ hy=>nomatch hy)) (by decide) ne ?_;rw[h];exact q
 .rw[decide_eq_false h]at q;exact tj (.lln (n:=0) (aF.of e1) (aF.of e2) h) (by decide) ne q
def sF {p:Addr}{o o':HO}{G:List ai}(h:pt a o ∈ F)(z:Sep (pt p o'::(G++F)) H):a≠p:=let⟨_,pl⟩:=dC h;(z.pull (.t (az pl))).ne
def kX (r:Rw):∃ s rest,r.tl=v0 s::rest/\gF (v0 s) (v0 "do")=false/\gF (v0 s) (v0 "times")=false/\gF (v0 s) (v0 "when")=false:=by
 cases r with
 |lg w=>cases w<;>exact⟨_,_,rfl,by decide+kernel,by decide+kernel,by decide+kernel⟩
 |sp s=>cases s<;>exact⟨_,_,rfl,by decide+kernel,by decide+kernel,by decide+kernel⟩
 |hop n o=>exact⟨_,_,rfl,by decide+kernel,by decide+kernel,by decide+kernel⟩
section
variable {cd:Addr}{cs:List (Str×Int)}{ns:List Str}{F G:List ai}{v:V}{n:Nat}
abbrev tQ (K:W.Frag)(R:Rt)(cd:Addr)(cs:List (Str×Int))(ns:List Str)(F:List ai)(n:Nat):Prop:=∀ {k:Nat}{G:List ai}{v:V}{b:List Itm}{H:Hp}{Q:VK}{E:XK},n+1<=k->cP ns n b->gb F n v b->Sep (pt cd (.dK (bA cs))::(G++F)) H->(∀ H',Sep (pt cd (.dK (bA cs))::(G++F)) H'->Q (ut (aP (aJ cs) n b)) H')->ae tab R k 66 [ul cd,v] H Q E
def vn (ro:Ro K R)(hns:∀ w ∈ ns,w ∈ cs.map (·.1)) (ih:∀ m,n=m+1->tQ K R cd cs ns F m):tQ K R cd cs ns F n:=by
 intro k G v b H Q E hk ok hv z q;obtain⟨l,vs,rfl,m,a⟩:=hv;have zg:∀ {H:Hp}{d:Addr}{o:HO},pt d o ∈ F->Sep (pt cd (.dK (bA cs))::(G++F)) H->H d=some o:=λ{H d o} m z=>fz (G:=pt cd (.dK (bA cs))::G) m z
 have zt:∀ {H:Hp}{d:Addr}{xs:List V},tu d xs ∈ F->Sep (pt cd (.dK (bA cs))::(G++F)) H->H d=some (wf xs):=λ{H d xs} m z=>fO (G:=pt cd (.dK (bA cs))::G) m z
 delta fE;right;refine i5 (zg m z) ?_;have hl:vs.length<=30:=by rw[a.1];exact ok.1
 refine gW (xs:=vs) (λj U H=>∃ u,U=[some (ul cd),some (ul l),some (ut (aP (aJ cs) n (b.take j))),u]/\Sep (pt cd (.dK (bA cs))::(G++F)) H) ⟨_,rfl,z⟩ ?_ ?_ ?_
 .rintro j U H ⟨u,rfl,z⟩;exact aF.of (zg m z)
 .rintro j x U H hx ⟨u,rfl,z⟩;obtain⟨i,hb,hi⟩:=a.get hx;have ok:=ok.2 i (cr hb);have step:∀ {N:Int},N=iM (aJ cs) n i->aP (aJ cs) n (b.take j)+N=aP (aJ cs) n (b.take (j+1)):=λ{N} e=>by
   subst e;have e2:b.take (j+1)=b.take j++[i]:=by rw[take_succ,hb];rfl
   rw[e2];show _=((b.take j++[i]).map _).sum;rw[dL,List.sum_append];simp only[map_cons,List.map_nil,sum_cons,List.sum_nil,Int.add_zero]
  cases i with
  |row r=>
   obtain⟨d,rfl,m⟩:∃ t,x=ul t/\tu t r.tl ∈ F:=by cases n<;>exact hi
   obtain⟨s,rest,er,h1,h2,h3⟩:=kX r;rw[er]at m;have e:=zt m z;right;refine aj e nu ?_;right;refine ao h1 ?_;right;refine aj e nu ?_;right;refine ao h2 ?_;right;refine aj e nu ?_;right;refine ao h3 ?_;right;exact⟨_,by rw[<-step (N:=1) (by cases n<;>rfl)];rfl,z⟩
  |dO w=>
   obtain⟨d,rfl,m⟩:∃ t,x=ul t/\tu t [v0 "do",v0 w] ∈ F:=by cases n<;>exact hi
   have ok':w ∈ ns:=by cases n<;>exact ok
   have e:=zt m z;right;refine aj e rfl ?_;right;refine aj e rfl ?_;right;refine zW (k:=.inr w) z.at (jW (hns w ok')) ?_;right;exact⟨_,by rw[<-step (N:=aJ cs w) (by cases n<;>rfl)];rfl,z⟩
  |tms t c=>
   cases n with
   |zero=>exact hi.elim
   |succ n=>
    obtain⟨d,l1,vs1,rfl,m1,m2,a1⟩:=hi;have e:=zt m1 z;right;refine aj e rfl ?_;right;refine aj e rfl ?_;right;refine aj e rfl ?_;right;refine aj e rfl ?_;right;refine ih n rfl nofun ok.2 ⟨l1,vs1,rfl,m2,a1⟩ z (λH3 z3=>?_);left;refine⟨.inl ⟨by have:=ok.1.1;omega,by have:=ok.1.2;omega⟩,?_⟩;right;exact⟨_,by rw[<-step (N:=t*aP (aJ cs) n c) rfl];rfl,z3⟩
  |whn t c c2=>
   cases n with
   |zero=>exact hi.elim
   |succ n=>
    obtain⟨d,l1,vs1,l2,vs2,rfl,m1,⟨m2,a1⟩,m3,a2⟩:=hi;have e:=zt m1 z;right;refine aj e rfl ?_;right;refine aj e rfl ?_;right;refine aj e rfl ?_;right;refine aj e rfl ?_;right;refine ih n rfl nofun ok.2.1 ⟨l1,vs1,rfl,m2,a1⟩ z (λH3 z3=>?_);right;refine aj (zt m1 z3) rfl ?_;right;refine ih n rfl nofun ok.2.2 ⟨l2,vs2,rfl,m3,a2⟩ z3 (λH4 z4=>?_);right;refine aj (zt m1 z4) rfl ?_;right;rename_i p H5 z5;refine ne_nil (zg m3 z5.drop) z5.at (sF (G:=pt cd (.dK (bA cs))::G) m3 z5) ?_;refine dB ?_;right;refine⟨some (ul d),?_,z5.drop⟩;rw[<-step (N:=1+aP (aJ cs) n c+aP (aJ cs) n c2+(if c2.length=0 then 0 else 1)) rfl,<-a2.1];clear step
    by_cases h:vs2.length=0
    .rw[decide_eq_true h,if_pos h]
     rfl
    .rw[decide_eq_false h,if_neg h]
     rfl
 .rintro U H ⟨u,rfl,z⟩;right;rw[take_of_length_le (by rw[a.1];exact pi _)];exact q _ z
def tS (ro:Ro K R)(hns:∀ w ∈ ns,w ∈ cs.map (·.1)):∀ n,tQ K R cd cs ns F n
 |0=>vn ro hns λm e=>absurd e nofun
 |n+1=>vn ro hns λm e=>by cases e;exact tS ro hns n
end
section
variable {F G:List ai}{v:V}{n:Nat}{ns:List Str}
abbrev uK (K:W.Frag)(R:Rt)(ns:List Str)(F:List ai)(n:Nat):Prop:=∀ {k:Nat}{G:List ai}{v:V}{b:List Itm}{H:Hp}{Q:VK}{E:XK},n+1<=k->cP ns n b->gb F n v b->Sep (G++F) H->(∀ c H',Sep (G++F) H'->Q (.bl c) H')->ae tab R k 59 [v] H Q E
def qp (ro:Ro K R)(ih:∀ m,n=m+1->uK K R ns F m):uK K R ns F n:=by
 intro k G v b H Q E hk ok hv z q;obtain⟨l,vs,rfl,m,a⟩:=hv;delta cS;right;refine i5 (fz m z) ?_;have hl:vs.length<=30:=by rw[a.1];exact ok.1
 refine jZ (xs:=vs) nofun (λD ys H=>∃ bs:List Bool,ys=bs.map V.bl/\Sep (pt D (v6 ys)::(G++F)) H) (λD ys H ⟨bs,_,z⟩=>aF.of (fz m z.drop)) (λD hD=>⟨[],rfl,z.new (o:=v6 []) hD⟩) (λD ys x H hx hI=>?_) (λD ys H hl2 hI=>?_)
 .obtain⟨bs,e,z1⟩:=hI;obtain⟨i,hb,hi⟩:=a.get hx;have hyl:=(ss.mp hx).1;have fin:∀ {c:Bool}{H:Hp},Sep (pt D (v6 ys)::(G++F)) H->jL (λD ys H=>∃ bs:List Bool,ys=bs.map V.bl/\Sep (pt D (v6 ys)::(G++F)) H) D ys [] (some x) (.bl c) H:=λ{c H} z=>jL.mk z.at nofun ⟨bs++[c],by rw[e,dL];rfl,z.set rfl⟩
  cases i with
  |row r=>
   obtain⟨d,rfl,m⟩:∃ t,x=ul t/\tu t r.tl ∈ F:=by cases n<;>exact hi
   obtain⟨s,rest,er,h1,h2,h3⟩:=kX r;rw[er]at m;right;refine aj (fO m z1.drop) nu ?_;right;refine ao h2 ?_;exact fin z1
  |dO w=>
   obtain⟨d,rfl,m⟩:∃ t,x=ul t/\tu t [v0 "do",v0 w] ∈ F:=by cases n<;>exact hi
   right;refine aj (fO m z1.drop) rfl ?_;right;exact fin z1
  |tms t c=>
   cases n with
   |zero=>exact hi.elim
   |succ n=>
    have hc:=(ok.2 _ (cr hb)).2;obtain⟨d,l1,vs1,rfl,m1,m2,a1⟩:=hi;right;refine aj (fO m1 z1.drop) rfl ?_;right;refine aj (fO m1 z1.drop) rfl ?_;right;refine cL (λg=>fin z1) (λg=>?_);right;refine aj (fO m1 z1.drop) rfl ?_;right;exact ih n rfl (k:=k-1) (G:=pt D (v6 ys)::G) nofun hc ⟨l1,vs1,rfl,m2,a1⟩ z1 (λc H3 z3=>fin z3)
  |whn t c c2=>
   cases n with
   |zero=>exact hi.elim
   |succ n=>
    obtain⟨d,l1,vs1,l2,vs2,rfl,m1,_⟩:=hi;right;refine aj (fO m1 z1.drop) rfl ?_;right;exact fin z1
 .obtain⟨bs,e,z1⟩:=hI;left;exact sg (K:=K) (bs:=bs) rfl (by rw[z1.at,e]) (q _ _ z1.drop)
def nr (ro:Ro K R):∀ n,uK K R ns F n
 |0=>qp ro λm e=>absurd e nofun
 |n+1=>qp ro λm e=>by cases e;exact nr ro n
end
def toF {L G:List ai}(z:Sep (L++(G++F)) H):Sep (G++(L++F)) H:=Sep.mv (P:=[]) z
def aa {L:List ai}:A ∈ F->A ∈ L++F:=ii L
section
variable {F G:List ai}{v:V}{n:Nat}{ns:List Str}{x dx p p':Addr}{vs vs':List V}
def tY (hk:1<=k)(z:Sep (pt x (wn (R.cad 11) dx [])::O) H)(q:∀ H',Sep (pt x (wn (R.cad 11) dx [("called",v0 w)])::O) H'->Q v4 H'):ae tab R k 22 [ul x,v0 w] H Q E:=by
 delta dU;right;exact q _ (by assumption)
def tV (hk:1<=k)(hp:pt p (v6 vs) ∈ F)(z:Sep (pt x (wn (R.cad 12) dx [])::(G++F)) H)(q:∀ l H',Sep (pt x (wn (R.cad 12) dx [("many",ut m),("block",ul l)])::pt l (v6 vs)::(G++F)) H'->Q v4 H'):ae tab R k 24 [ul x,ut m,ul p] H Q E:=by
 delta cz;right;rename_i H1 z1;refine dE z1 (fz (G:=_::G) hp z1) (λl H2 z2=>?_);right;rename_i H3 z3;exact q l _ (z3.pull .k1)
def rz {o:Int}(hk:1<=k)(hp:pt p (v6 vs) ∈ F)(hp':pt p' (v6 vs') ∈ F)(z:Sep (pt x (wn (R.cad 13) dx [])::(G++F)) H)(q:∀ l l' H',Sep (pt x (wn (R.cad 13) dx [("on",ut o),("block",ul l),("other",ul l')])::pt l (v6 vs)::pt l' (v6 vs')::(G++F)) H'->Q v4 H'):ae tab R k 26 [ul x,ut o,ul p,ul p'] H Q E:=by
 delta bE;right;rename_i H1 z1;refine dE z1 (fz (G:=_::G) hp z1) (λl H2 z2=>?_);right;rename_i H3 z3;refine oa ?_;right;refine dE z3 (fz (G:=_::_::G) hp' z3) (λl' H4 z4=>?_);right;rename_i H5 z5;exact q l l' _ (z5.sub (.cons .k2 (.cons .k1 (.cons .e .refl))))
def qW {o:Int}(hk:1<=k)(hp:pt p (v6 vs) ∈ F)(z:Sep (pt x (wn (R.cad 13) dx [])::(G++F)) H)(q:∀ l l' H',Sep (pt x (wn (R.cad 13) dx [("on",ut o),("block",ul l),("other",ul l')])::pt l (v6 vs)::pt l' (v6 [])::(G++F)) H'->Q v4 H'):ae tab R k 26 [ul x,ut o,ul p,v4] H Q E:=by
 delta bE;right;rename_i H1 z1;refine dE z1 (fz (G:=_::G) hp z1) (λl H2 z2=>?_);right;rename_i H3 z3;refine oa ?_;right;rename_i l' H4 z4 H5 z5;exact q l l' _ (z5.sub (.cons .k2 (.cons .k1 (.cons .e .refl))))
abbrev Be (K:W.Frag)(R:Rt)(ns:List Str)(n:Nat):Prop:=∀ {k:Nat}{F G:List ai}{v:V}{b:List Itm}{H:Hp}{Q:VK}{E:XK},2*n+8<=k->cP ns n b->gb F n v b->Sep (G++F) H->(∀ l Δ H',k8 R (Δ++F) n (ul l) b->Sep (G++(Δ++F)) H'->Q (ul l) H')->ae tab R k 62 [v] H Q E
abbrev BF (K:W.Frag)(R:Rt)(ns:List Str)(n:Nat):Prop:=∀ {k:Nat}{F G:List ai}{v:V}{i:Itm}{H:Hp}{Q:VK}{E:XK},2*n+7<=k->jJ ns n i->gp F n v i->Sep (G++F) H->(∀ d Δ H',gZ R (Δ++F) n (ul d) i->Sep (G++(Δ++F)) H'->Q (ul d) H')->ae tab R k 63 [v] H Q E
def pZ (ro:Ro K R)(ih:∀ m,n=m+1->Be K R ns m):BF K R ns n:=by
 intro k F G v i H Q E hk ok hi z q;delta cR;cases i with
 |row r=>
  obtain⟨t,rfl,m⟩:∃ t,v=ul t/\tu t r.tl ∈ F:=by cases n<;>exact hi
  have ok':r.ok:=by cases n<;>exact ok
  obtain⟨s,rest,er,h1,h2,h3⟩:=kX r;have e:=fO m z;rw[er]at e;right;refine aj e nu ?_;right;refine ao h1 ?_;right;refine aj e nu ?_;right;refine ao h2 ?_;right;refine aj e nu ?_;right;refine ao h3 ?_;right;refine aj e nu ?_;right;refine ao h3 ?_;right;refine uH r ro nofun ok' (Sep.rW (fO m z) z) (λd H' z'=>?_);refine q d [bS R d r] H' ?_ (toF (L:=[bS R d r]) ((z'.pull .k1).drop));cases n<;>exact⟨d,rfl,li⟩
 |dO w=>
  obtain⟨t,rfl,m⟩:∃ t,v=ul t/\tu t [v0 "do",v0 w] ∈ F:=by cases n<;>exact hi
  have e:=fO m z;right;refine aj e rfl ?_;right;refine aj e rfl ?_;right;intro x dx h1 h2 h3;refine tY nofun (ef z h1 h2 h3) (λH' z'=>?_);refine⟨rfl,q x [pt x (wn (R.cad 11) dx [("called",v0 w)])] H' ?_ (toF (L:=[_]) ((z'.pull .k1).drop))⟩;cases n<;>exact⟨x,dx,rfl,li⟩
 |tms t c=>
  cases n with
  |zero=>exact hi.elim
  |succ n=>
   obtain⟨t',l1,vs1,rfl,m1,m2,a1⟩:=hi;have e:=fO m1 z;right;refine aj e rfl ?_;right;refine aj e rfl ?_;right;refine aj e rfl ?_;right;refine aj e rfl ?_;right;refine ih n rfl nofun ok.2 ⟨l1,vs1,rfl,m2,a1⟩ z (λp Δ H' hm z'=>?_);obtain⟨p,vs,e,hp,a⟩:=hm;cases e;right;intro x dx h1 h2 h3;refine tV (G:=pt dx (.own x)::G) nofun hp (ef z' h1 h2 h3) (λl H2 z2=>?_);refine⟨rfl,q x (pt x _::pt l (v6 vs)::Δ) H2 ⟨x,dx,l,vs,rfl,li,dl _ li,a.map λv i=>gZ.mono λA h=>dl _ (dl _ h)⟩ (toF (L:=[_,_]) ((z2.pull .k2).drop))⟩
 |whn o c c2=>
  cases n with
  |zero=>exact hi.elim
  |succ n=>
   obtain⟨t',l1,vs1,l2,vs2,rfl,m1,⟨m2,a1⟩,m3,a2⟩:=hi;have e:=fO m1 z;right;refine aj e rfl ?_;right;refine aj e rfl ?_;right;refine aj e rfl ?_;right;refine aj e rfl ?_;right;rename_i pn H1 z1;refine eq_nil (fz m3 z1.drop) z1.at (sF m3 z1) ?_;have two:∀ {H:Hp},Sep (G++F) H->wB (b6 3 cR.body) ⟨tab,R,ae tab R (k-1),true⟩ ⟨λ_ H'=>Q v4 H',Q,λ_ _=>False,λ_ _=>False⟩ (λ_=>E) [some (ul t')] H:=by
    intro H z;have e:=fO m1 z;right;refine aj e rfl ?_;right;refine aj e rfl ?_;right;refine aj e rfl ?_;right;refine ih n rfl nofun ok.2.1 ⟨l1,vs1,rfl,m2,a1⟩ z (λp Δ H' hm z'=>?_);obtain⟨p,vs,ep,hp,a⟩:=hm;cases ep;right;refine aj (fO (aa m1) z') rfl ?_;right;refine ih n rfl nofun ok.2.2 ⟨l2,vs2,rfl,aa m3,a2.map λv i=>gp.mono λA=>aa⟩ z' (λp' Δ' H2 hm z2=>?_);obtain⟨p',vs',ep,hp',a'⟩:=hm;cases ep;right;intro x dx h1 h2 h3;refine rz (G:=pt dx (.own x)::G) nofun (aa hp) hp' (ef z2 h1 h2 h3) (λl l' H3 z3=>?_);have up:∀ A,A ∈ Δ'++(Δ++F)->A ∈ (pt x (wn (R.cad 13) dx [("on",ut o),("block",ul l),("other",ul l')])::pt l (v6 vs)::pt l' (v6 vs')::(Δ'++Δ))++F:=λA h=>by
     refine dl _ (dl _ (dl _ ?_));show A ∈ (Δ'++Δ)++F;rw[le];exact h
    refine⟨rfl,q x _ H3 ⟨x,dx,l,vs,l',vs',rfl,li,⟨dl _ li,a.map λv i=>gZ.mono λA h=>up A (aa h)⟩,dl _ (dl _ li),a'.map λv i=>gZ.mono up⟩ ?_⟩;have z4:=toF (L:=[_,_,_]) (F:=Δ'++(Δ++F)) ((z3.pull .k3).drop);rw[cons_append,cons_append,cons_append,le];exact z4
   by_cases h0:vs2.length=0
   .rw[decide_eq_true h0];right;refine aj (fO m1 z1.drop) rfl ?_;right;refine cL (λg=>?_) (λg=>two z1.drop);right;refine aj (fO m1 z1.drop) rfl ?_;right;refine aj (fO m1 z1.drop) rfl ?_;right;refine ih n rfl nofun ok.2.1 ⟨l1,vs1,rfl,m2,a1⟩ z1.drop (λp Δ H' hm z'=>?_);obtain⟨p,vs,ep,hp,a⟩:=hm;cases ep;right;intro x dx h1 h2 h3;refine qW (G:=pt dx (.own x)::G) nofun hp (ef z' h1 h2 h3) (λl l' H3 z3=>?_);have hc:c2=[]:=length_eq_zero_iff.mp (by rw[<-a2.1];exact h0);subst hc;refine⟨rfl,q x (pt x _::pt l (v6 vs)::pt l' (v6 [])::Δ) H3 ⟨x,dx,l,vs,l',[],rfl,li,⟨dl _ li,a.map λv i=>gZ.mono λA h=>dl _ (dl _ (dl _ h))⟩,dl _ (dl _ li),.nil⟩ (toF (L:=[_,_,_]) ((z3.pull .k3).drop))⟩
   .rw[decide_eq_false h0];left;refine ao rfl ?_;exact ao rfl (two z1.drop)
abbrev FR (K:W.Frag)(R:Rt)(ns:List Str)(n:Nat):Prop:=∀ {k:Nat}{F G:List ai}{v:V}{b:List Itm}{H:Hp}{Q:VK}{E:XK},2*n+8<=k->cP ns n b->gb F n v b->Sep (G++F) H->(∀ l vs Δ H',aw (gZ R (Δ++F) n) vs b->Sep (pt l (v6 vs)::(G++(Δ++F))) H'->Q (ul l) H')->ae tab R k 62 [v] H Q E
def qF (ro:Ro K R)(hi:BF K R ns n):FR K R ns n:=by
 intro k F G v b H Q E hk ok hv z q;obtain⟨l,vs,rfl,m,a⟩:=hv;delta eJ;right;refine i5 (fz m z) ?_;have hl:vs.length<=30:=by rw[a.1];exact ok.1
 refine jZ (xs:=vs) nofun (λD ys H=>∃ Δ,aw (gZ R (Δ++F) n) ys (b.take ys.length)/\Sep (pt D (v6 ys)::(G++(Δ++F))) H) (λD ys H ⟨Δ,_,z⟩=>aF.of (fz (aa m) z.drop)) (λD hD=>⟨[],.nil,z.new (o:=v6 []) hD⟩) (λD ys x H hx hI=>?_) (λD ys H hl2 hI=>?_)
 .obtain⟨Δ,a1,z1⟩:=hI;obtain⟨i,hb,hi2⟩:=a.get hx;have hyl:=(ss.mp hx).1;right;refine hi (k:=k-1) (F:=Δ++F) (G:=pt D (v6 ys)::G) nofun (ok.2 i (cr hb)) (gp.mono (λA=>aa) hi2) z1 (λd Δ' H' hm z'=>?_);refine jL.mk z'.at nofun ⟨Δ'++Δ,?_,by rw[le];exact z'.set rfl⟩;rw[ci,f8,take_succ,hb,le];exact(a1.map λv i=>gZ.mono λA=>aa).snoc hm
 .obtain⟨Δ,a1,z1⟩:=hI;left;rw[hl2,a.1,take_of_length_le (pi _)]at a1;exact q D ys Δ H a1 z1
def mN (ro:Ro K R)(hi:BF K R ns n):Be K R ns n:=by
 intro k F G v b H Q E hk ok hv z q;exact qF ro hi hk ok hv z λD ys Δ H a1 z1=>q D (pt D (v6 ys)::Δ) H ⟨D,ys,rfl,li,a1.map λv i=>gZ.mono λA h=>dl _ h⟩ (toF (L:=[_]) z1)
def u0 (ro:Ro K R):∀ n,Be K R ns n
 |0=>mN ro (pZ ro λm e=>absurd e nofun)
 |n+1=>mN ro (pZ ro λm e=>by cases e;exact u0 ro n)
end
abbrev n5:iO->iO
 | .cons (.for _ _ b) _=>b
 |_=>.nil
def F6 {a b c d e:V}(ha:P a)(hb:P b)(hc:P c)(hd:P d)(he:P e):∀ v ∈ [a,b,c,d,e],P v:=λv hv=>by
 simp only[lv,not_mem_nil,or_false]at hv;rcases hv with rfl|rfl|rfl|rfl|rfl<;>assumption
abbrev jP:iO->iO
 | .cons (.ife _ _ b) _=>b
 |_=>.nil
abbrev eB:Nat->Int
 |0=>1000
 |n+1=>100*eB n
abbrev cst:Nat->Int
 |0=>15
 |n+1=>15+2*eB n
def eI:∀ n,1000<=eB n
 |0=>by show(1000:Int)<=1000;omega
 |n+1=>by have:=eI n;show 1000<=100*eB n;omega
def g6 (n:Nat):15<=cst n/\1+30*cst n<=eB n:=by
 cases n with
 |zero=>exact⟨by show(15:Int)<=15;omega,by show(1:Int)+30*15<=1000;omega⟩
 |succ n=>have:=eI n;exact⟨by show 15<=15+2*eB n;omega,by show 1+30*(15+2*eB n)<=100*eB n;omega⟩
def iB (c:Bool):0<=b2i c/\b2i c<=1:=by cases c<;>decide
section
variable {F G:List ai}{v:V}{n:Nat}{ns ns':List Str}{h T fd so:Addr}{m most:Int}{j:Nat}
noncomputable abbrev qN (h T fd so:Addr)(ns ns':List Str)(vs:List V)(N:Int)(O:List ai):List ai:=hand h N::pt T (v6 (ns.map v0))::pt fd (v6 vs)::pt so (v6 (ns'.map v0))::O
abbrev zV (h T fd so:Addr)(ns ns':List Str)(F G:List ai)(n:Nat)(m most:Int)(j:Nat)(U:St)(H:Hp):Prop:=∃ u6 u7 u8 u9 u10 u11 u12 u13,U=[some (ul h),some (ul T),some (ut (n+1)),some (ut most),some (ul fd),some (ul so),u6,u7,u8,u9,u10,u11,u12,u13]/\
 ∃ b vs Δ,b.length=j/\(∀ i ∈ b,jJ ns n i)/\aw (gp (Δ++F) n) vs b/\Sep (qN h T fd so ns ns' vs (m+1+(j:Int)*cst n) (G++(Δ++F))) H
abbrev yc (K:W.Frag)(R:Rt)(n:Nat):Prop:=∀ {k:Nat}{F G:List ai}{h T:Addr}{m most:Int}{ns:List Str}{H:Hp}{Q:VK}{E:XK},n+4<=k->(0<=most/\most<=29)->m+eB n<=1099000000000->ns.length<=30->Sep (hand h m::pt T (v6 (ns.map v0))::(G++F)) H->(∀ l b Δ H',cP ns n b->b.length<=most->gb (Δ++F) n (ul l) b->Sep (hand h (m+eB n)::pt T (v6 (ns.map v0))::(G++(Δ++F))) H'->Q (ul l) H')->ae tab R k 60 [ul h,ul T,ut (n+1),ut most] H Q E
def ve {E:St->XK}(ro:Ro K R)(ih:∀ p,n=p+1->yc K R p) (hk:n+4<=k) (hsub:∀ w ∈ ns',w ∈ ns) (hj:(j:Int)<most) (hmo:most<=29) (hm:m+eB n<=1099000000000) (hns:ns.length<=30) (hns':ns'.length<=30) (hI:zV h T fd so ns ns' F G n m most j U H) (q:∀ σ' H',zV h T fd so ns ns' F G n m most (j+1) σ' H'->D.nx σ' H'):
  wB (n5 (b6 2 aO.body)) ⟨tab,R,ae tab R (k-1),true⟩ D E U H:=by
 obtain⟨u6,u7,u8,u9,u10,u11,u12,u13,rfl,b,vs,Δ,hb,ok,a,z⟩:=hI;have hjc:(j:Int)*cst n<=29*cst n:=Int.mul_le_mul_of_nonneg_right nofun (by have:=(g6 n).1;omega);have hj0:0<=(j:Int)*cst n:=Int.mul_nonneg nofun (by have:=(g6 n).1;omega);have hC:=g6 n;have hbp:=eI n;have hl30:vs.length<=29:=by rw[a.1,hb];omega
 have fin:∀ {v:V}{i:Itm}{Δ':List ai}{N:Int}{H':Hp}{s8 s9 s10 s11 s12 s13:Option V}{s6 s7:Option V},jJ ns n i->gp (Δ'++F) n v i->(∀ A ∈ Δ++F,A ∈ Δ'++F)->N<=m+1+(j:Int)*cst n+cst n->Sep (qN h T fd so ns ns' (vs++[v]) N (G++(Δ'++F))) H'->D.nx [some (ul h),some (ul T),some (ut (n+1)),some (ut most),some (ul fd),some (ul so),s6,s7,s8,s9,s10,s11,s12,s13] H':=by
  intro v i Δ' N H' s8 s9 s10 s11 s12 s13 s6 s7 oi si up hN z;refine q _ _ ⟨_,_,_,_,_,_,_,_,rfl,b++[i],vs++[v],Δ',by rw[ci,hb];rfl,λx hx=>?_,(a.map λv i=>gp.mono up).snoc si,?_⟩
  .rcases mem_append.mp hx with hx|hx
   .exact ok x hx
   .rw[mem_singleton.mp hx];exact oi
  .exact aN z (by rw[Int.natCast_add,Int.add_mul];omega)
 have rest:∀ {H:Hp}{way:Int},0<=way->Sep (qN h T fd so ns ns' vs (m+1+(j:Int)*cst n+1) (G++(Δ++F))) H->wB (jP (b6 1 (n5 (b6 2 aO.body)))) ⟨tab,R,ae tab R (k-1),true⟩ D E [some (ul h),some (ul T),some (ut (n+1)),some (ut most),some (ul fd),some (ul so),u6,some (ut way),u8,u9,u10,u11,u12,u13] H:=by
  intro H way hw z;have row:∀ {H:Hp},Sep (qN h T fd so ns ns' vs (m+1+(j:Int)*cst n+1) (G++(Δ++F))) H->wB (jP (jP (jP (b6 1 (n5 (b6 2 aO.body)))))) ⟨tab,R,ae tab R (k-1),true⟩ D E [some (ul h),some (ul T),some (ut (n+1)),some (ut most),some (ul fd),some (ul so),u6,some (ut way),u8,u9,u10,u11,u12,u13] H:=by
   intro H z;left;refine⟨fd,vs,rfl,z.get .k2,?_⟩;right;refine xM nofun z nofun nofun nofun (λt r H2 okr z2=>?_);left;refine⟨vs,z2.get .k3,lO z2 .k3 nofun (λH3 z3=>?_)⟩;left;have z4:Sep (qN h T fd so ns ns' (vs++[ul t]) (m+1+(j:Int)*cst n+1+10) (G++(([tu t r.tl]++Δ)++F))) H3:=by
    have z5:=Sep.mv (P:=[hand h _,pt T _,pt fd _,pt so _]) (Δ:=[tu t r.tl]) (L:=G) (O:=Δ++F) (H:=H3) (z3.sub (.cons .k1 (.cons .k1 (.cons .k1 (.cons .k1 .refl)))));rw[le];exact z5
   exact fin (i:=.row r) (by cases n<;>exact okr) (by cases n<;>exact⟨t,rfl,li⟩) (λA h=>dl _ h) nofun z4
  cases n with
  |zero=>
   right;refine cL (λg=>?_) (λg=>?_)
   .left;refine ao (decide_eq_false nofun) ?_;left;refine bO (λg=>?_) (λg=>ao rfl (row z));left;exact ao (decide_eq_false nofun) (row z)
   .refine ao rfl ?_;left;refine bO (λg=>?_) (λg=>ao rfl (row z));left;exact ao (decide_eq_false nofun) (row z)
  |succ n=>
   have hcs:cst (n+1)=15+2*eB n:=rfl;have hbs:eB (n+1)=100*eB n:=rfl;have hbp:=eI n;have hdp:((n+1:Nat):Int)+1-1=(n:Int)+1:=by omega
   have when:∀ {H:Hp},Sep (qN h T fd so ns ns' vs (m+1+(j:Int)*cst (n+1)+1) (G++(Δ++F))) H->wB (jP (jP (b6 1 (n5 (b6 2 aO.body))))) ⟨tab,R,ae tab R (k-1),true⟩ D E [some (ul h),some (ul T),some (ut ((n+1:Nat)+1)),some (ut most),some (ul fd),some (ul so),u6,some (ut way),u8,u9,u10,u11,u12,u13] H:=by
    intro H z;right;refine bO (λg=>?_) (λg=>ao rfl (row z));left;refine aQ (decide_eq_true nofun) ?_;walk_at "gd";rename_i r1 H1 r10 r11 z1 r2 H2 r20 r21 z2;rw[hdp];have z3:Sep (hand h (m+1+(j:Int)*cst (n+1)+1+1+1)::pt so (v6 (ns'.map v0))::(([pt T (v6 (ns.map v0)),pt fd (v6 vs)]++G)++(Δ++F))) H2:=z2.sub (.cons .e (.cons .k2 .refl));refine ih n rfl (k:=k-1) nofun ⟨by omega,by omega⟩ nofun hns' z3 (λl b1 Δ1 H4 ok1 hl1 s1 z4=>?_);have z4':Sep (hand h _::pt so (v6 (ns'.map v0))::(([pt T (v6 (ns.map v0)),pt fd (v6 vs)]++G)++(Δ1++(Δ++F)))) H4:=z4;have z5:Sep (qN h T fd so ns ns' vs (m+1+(j:Int)*cst (n+1)+1+1+1+eB n) (G++(Δ1++(Δ++F)))) H4:=z4'.sub (.cons .e (.cons .k1 (.cons .k1 (.cons .e .refl))));left;refine⟨fd,vs,rfl,z5.get .k2,?_⟩;right;rw[hdp];have z6:Sep (hand h (m+1+(j:Int)*cst (n+1)+1+1+1+eB n)::pt so (v6 (ns'.map v0))::(([pt T (v6 (ns.map v0)),pt fd (v6 vs)]++G)++(Δ1++(Δ++F)))) H4:=z4;refine ih n rfl (k:=k-1) nofun ⟨by omega,by omega⟩ nofun hns' z6 (λl' b2 Δ2 H5 ok2 hl2 s2 z7=>?_);have z7':Sep (hand h _::pt so (v6 (ns'.map v0))::(([pt T (v6 (ns.map v0)),pt fd (v6 vs)]++G)++(Δ2++(Δ1++(Δ++F))))) H5:=z7;have z8:Sep (qN h T fd so ns ns' vs (m+1+(j:Int)*cst (n+1)+1+1+1+eB n+eB n) (G++(Δ2++(Δ1++(Δ++F))))) H5:=z7'.sub (.cons .e (.cons .k1 (.cons .k1 (.cons .e .refl))));left;refine bq z8 (by walk_at "ar") (λt H6 z9=>?_);left;refine⟨vs,z9.get .k3,lO z9 .k3 nofun (λH7 z10=>?_)⟩;left;have z11:Sep (qN h T fd so ns ns' (vs++[ul t]) (m+1+(j:Int)*cst (n+1)+1+1+1+eB n+eB n) (G++((tu t [v0 "when",ut r1,ul l,ul l']::(Δ2++(Δ1++Δ)))++F))) H7:=by
     have z12:=Sep.mv (P:=[hand h _,pt T _,pt fd _,pt so _]) (Δ:=[tu t _]) (L:=G) (O:=Δ2++(Δ1++(Δ++F))) (H:=H7) (z10.toT.sub (.cons .k1 (.cons .k1 (.cons .k1 (.cons .k1 .refl)))));rw[cons_append,le,le];exact z12
    have up2:∀ A,A ∈ Δ2++(Δ1++(Δ++F))->A ∈ (tu t [v0 "when",ut r1,ul l,ul l']::(Δ2++(Δ1++Δ)))++F:=λA h=>by
     rw[cons_append,le,le];exact dl _ h
    obtain⟨l0,vs1,e0,hp1,a1⟩:=s1;cases e0;obtain⟨l0,vs2,e0,hp2,a2⟩:=s2;cases e0;exact fin (i:=.whn r1 b1 b2) ⟨by omega,⟨ok1.1,λi hi=>jJ.mono hsub (ok1.2 i hi)⟩,ok2.1,λi hi=>jJ.mono hsub (ok2.2 i hi)⟩ ⟨t,l,vs1,l',vs2,rfl,li,⟨up2 _ (aa hp1),a1.map λv i=>gp.mono λA h=>up2 A (aa h)⟩,up2 _ hp2,a2.map λv i=>gp.mono up2⟩ (λA h=>up2 A (aa (aa h))) nofun z11
   right;refine cL (λg=>?_) (λg=>ao rfl (when z));left;refine aQ (decide_eq_true nofun) ?_;walk_at "gd";rename_i r1 H1 r10 r11 z1 r2 H2 r20 r21 z2 lp H3 z3;obtain⟨v,e1,i,rfl,i0,i1⟩:=lY (xs:=[ut 0,ut 1,ut 2,ut 3,ut (4+r2)]) (P:=inR 0 9) (r:=r1) r10 (by simpa using r11) (F6 (.mk nofun nofun) (.mk nofun nofun) (.mk nofun nofun) (.mk nofun nofun) (.mk nofun nofun));refine c8 (by grind) e1 ?_;right;rw[hdp];have z4:Sep (hand h (m+1+(j:Int)*cst (n+1)+1+1+1)::pt so (v6 (ns'.map v0))::(([pt T (v6 (ns.map v0)),pt fd (v6 vs)]++G)++(Δ++F))) H3:=z3.drop.sub (.cons .e (.cons .k2 .refl));refine ih n rfl (k:=k-1) nofun ⟨by omega,by omega⟩ nofun hns' z4 (λl b1 Δ1 H4 ok1 hl1 s1 z5=>?_);have z5':Sep (hand h _::pt so (v6 (ns'.map v0))::(([pt T (v6 (ns.map v0)),pt fd (v6 vs)]++G)++(Δ1++(Δ++F)))) H4:=z5;have z6:Sep (qN h T fd so ns ns' vs (m+1+(j:Int)*cst (n+1)+1+1+1+eB n) (G++(Δ1++(Δ++F)))) H4:=z5'.sub (.cons .e (.cons .k1 (.cons .k1 (.cons .e .refl))));left;refine⟨fd,vs,rfl,z6.get .k2,?_⟩;right;refine nr ro n (k:=k-1) (F:=Δ1++(Δ++F)) (G:=[hand h _,pt T (v6 (ns.map v0)),pt fd (v6 vs),pt so (v6 (ns'.map v0))]++G) nofun ok1 s1 z6 (λc H5 z7=>?_);have z7:Sep (qN h T fd so ns ns' vs (m+1+(j:Int)*cst (n+1)+1+1+1+eB n) (G++(Δ1++(Δ++F)))) H5:=z7;refine dB ?_;have hc:=iB c;generalize b2i c=bc at hc;left;refine⟨.inl ⟨by omega,by omega⟩,?_⟩;left;refine uJ rfl ?_;left;refine bq z7 (by walk_at "ar") (λt H6 z9=>?_);left;refine⟨vs,z9.get .k3,lO z9 .k3 nofun (λH7 z10=>?_)⟩;left;generalize hM:min i (9-8*bc)=M at z9 z10;have hM':0<=M/\M<=9:=by omega
   have z11:Sep (qN h T fd so ns ns' (vs++[ul t]) (m+1+(j:Int)*cst (n+1)+1+1+1+eB n) (G++((tu t [v0 "times",ut M,ul l]::(Δ1++Δ))++F))) H7:=by
    have z12:=Sep.mv (P:=[hand h _,pt T _,pt fd _,pt so _]) (Δ:=[tu t _]) (L:=G) (O:=Δ1++(Δ++F)) (H:=H7) (z10.toT.sub (.cons .k1 (.cons .k1 (.cons .k1 (.cons .k1 .refl)))));rw[cons_append,le];exact z12
   have up2:∀ A,A ∈ Δ1++(Δ++F)->A ∈ (tu t [v0 "times",ut M,ul l]::(Δ1++Δ))++F:=λA h=>by
    rw[cons_append,le];exact dl _ h
   obtain⟨l0,vs1,e0,hp1,a1⟩:=s1;cases e0;exact fin (i:=.tms M b1) ⟨hM',ok1.1,λi hi=>jJ.mono hsub (ok1.2 i hi)⟩ ⟨t,l,vs1,rfl,li,up2 _ hp1,a1.map λv i=>gp.mono up2⟩ (λA h=>up2 A (aa h)) nofun z11
 walk_at "gd";rename_i way H1 w0 w1 z1;refine cL (λg=>?_) (λg=>?_)
 .right;rename_i p H2 z2;refine ne_nil (z2.get .k2) z2.at ((z2.pull .k2).ne) ?_;rw[ce];left
  by_cases h0:ns.length=0
  .rw[decide_eq_true h0];exact ao rfl (rest w0 z2.drop)
  .rw[decide_eq_false h0];refine aQ rfl ?_;have z2:=z2.drop;have hlen:0<((ns.map v0).length:Int):=by rw[ce];omega
   have hlen2:((ns.map v0).length:Int)<=30:=by rw[ce];omega
   left;refine⟨fd,vs,rfl,z2.get .k2,?_⟩;walk_at "gd";rename_i r H3 r0 r1 z3;obtain⟨v,e1,hv⟩:=cZ r0 r1;obtain⟨w,hw,rfl⟩:=List.mem_map.mp hv;refine c8 (z3.get .k1) e1 ?_;left;refine bq z3 (by walk_at "ar") (λt H6 z9=>?_);left;refine⟨vs,z9.get .k3,lO z9 .k3 nofun (λH7 z10=>?_)⟩;left;have z11:Sep (qN h T fd so ns ns' (vs++[ul t]) (m+1+(j:Int)*cst n+1+1) (G++(([tu t [v0 "do",v0 w]]++Δ)++F))) H7:=by
    have z12:=Sep.mv (P:=[hand h _,pt T _,pt fd _,pt so _]) (Δ:=[tu t _]) (L:=G) (O:=Δ++F) (H:=H7) (z10.toT.sub (.cons .k1 (.cons .k1 (.cons .k1 (.cons .k1 .refl)))));rw[le];exact z12
   exact fin (i:=.dO w) (by cases n<;>exact hw) (by cases n<;>exact⟨t,rfl,li⟩) (λA h=>dl _ h) nofun z11
 .exact ao rfl (rest w0 z1)
def qg (ro:Ro K R)(ih:∀ p,n=p+1->yc K R p):yc K R n:=by
 intro k F G h T m most ns H Q E hk hmo hm hns z q;have hC:=g6 n;have hbp:=eI n;delta aO;right;rename_i fd H1 z1;refine dB ?_;left;obtain⟨ns',e',hsub,hl'⟩:∃ ns':List Str,(sn (b2i (decide (3<(n:Int)+1))).toNat (ns.map v0)).flatten=ns'.map v0/\(∀ w ∈ ns',w ∈ ns)/\ns'.length<=30:=by
  by_cases g:3<(n:Int)+1
  .exact⟨ns,by rw[decide_eq_true g];show(sn 1 _).flatten=_;simp,λw h=>h,hns⟩
  .exact⟨[],by rw[decide_eq_false g];rfl,λw h=>(by cases h),by decide⟩
 refine sk (i:=b2i (decide (3<(n:Int)+1))) z1 (z1.get .k2) (by have:=iB (decide (3<(n:Int)+1));omega) (by have:=iB (decide (3<(n:Int)+1));omega) (by rw[ce];omega) (λso H2 z2=>?_);rw[e']at z2;walk_at "gd";rename_i r H3 r0 r1 z3;refine fh (λj U H=>zV h T fd so ns ns' F G n m most j U H) ⟨_,_,_,_,_,_,_,_,rfl,[],[],[],rfl,λi hi=>(nomatch hi),.nil,?_⟩ (λj U H hj hI=>?_) (λU H hI=>?_)
 .exact aN (z3.sub (.cons .e (.cons .k2 (.cons .k1 (.cons .e .refl))))) (by simp)
 .left;refine ve (k:=k) (j:=j) ro ih hk hsub nofun hmo.2 hm hns hl' ?_ (λσ' H' h=>h);obtain⟨u6,u7,u8,u9,u10,u11,u12,u13,rfl,hr⟩:=hI;exact⟨_,_,_,_,_,_,_,_,rfl,hr⟩
 .obtain⟨u6,u7,u8,u9,u10,u11,u12,u13,rfl,b,vs,Δ,hb,ok,a,z4⟩:=hI;right;have hjc:(r.toNat:Int)*cst n<=29*cst n:=Int.mul_le_mul_of_nonneg_right nofun nofun;have z5:Sep (hand h (m+eB n)::pt T (v6 (ns.map v0))::(G++([pt fd (v6 vs)]++(Δ++F)))) H:=Sep.mv (P:=[hand h _,pt T _]) (Δ:=[pt fd (v6 vs)]) (L:=G) (O:=Δ++F) (aN ((z4.pull .k3).drop) nofun);refine q fd b (pt fd (v6 vs)::Δ) H ⟨by rw[hb];omega,ok⟩ (by rw[hb];omega) ⟨fd,vs,rfl,li,a.map λv i=>gp.mono λA h=>dl _ h⟩ z5
def jV (ro:Ro K R):∀ n,yc K R n
 |0=>qg ro λm e=>absurd e nofun
 |n+1=>qg ro λm e=>by cases e;exact jV ro n
end
@[irreducible] noncomputable def yX (I:Nat->Addr->List V->Hp->Prop) (j:Nat) (D:Addr):VK:=λv H4=>∃ zs,H4 D=some (v6 zs)/\zs.length<PySem.sizeLine/\∃ ys2,I (j+1) D ys2 (upd H4 D (v6 (zs++[v])))
def yX.mk {j:Nat}{D:Addr}(h1:H3 D=some (v6 ys))(hl:ys.length<=999)(h2:I (j+1) D (ys++[v]) (upd H3 D (v6 (ys++[v])))):yX I j D v H3:=by
 unfold yX;exact⟨ys,h1,bI nofun,ys++[v],h2⟩
@[irreducible] noncomputable def sU (I:Nat->Addr->List V->Hp->Prop) (te:TE) (j:Nat) (D:Addr) (rest:St) (x:V):Bool->Hp->Prop:=λb H3=>(b=true->te (some x::rest) H3 λv H4=>yX I j D v H4)/\(b=false->∃ ys2,I (j+1) D ys2 H3)
def sU.t {j:Nat}{D:Addr}{x:V}{c:Bool}(e:c=true)(h:te (some x::rest) H3 λv H4=>yX I j D v H4):sU I te j D rest x c H3:=by
 unfold sU;exact⟨λ_=>h,λz=>(by rw[e]at z;cases z)⟩
def sU.f {j:Nat}{D:Addr}{x:V}{c:Bool}(e:c=false)(h:I (j+1) D ys H3):sU I te j D rest x c H3:=by
 unfold sU;exact⟨λz=>(by rw[e]at z;cases z),λ_=>⟨ys,h⟩⟩
def wb {tc:TT}(I:Nat->Addr->List V->Hp->Prop)(h0:∀ D,H D=none->I 0 D [] (upd H D (v6 [])))
  (hs:∀ j D ys c H',z.cps[j]? =some c->I j D ys H'->tc (some (v0 ⟨#[c]⟩)::rest) H' (sU I te j D rest (v0 ⟨#[c]⟩)))
  (hd:∀ D ys H',I z.cps.size D ys H'->Q (ul D) H'):A4 tc te (yE z) (none::rest) H Q:=by
 unfold A4;intro D hD;refine⟨λi m σ' H'=>m=z.cps.size-i/\i<=z.cps.size/\∃ ys x0,σ'=x0::rest/\I i D ys H',⟨z.cps.size,by simp,Nat.zero_le _,[],none,rfl,h0 D hD⟩,λi m σ' H' ⟨e,hi,ys,x0,e1,h⟩=>?_⟩;subst e1
 by_cases hlt:i<z.cps.size
 .refine .inr ⟨hlt,λσ2 H2=>∃ ys2 x2,σ2=x2::rest/\I (i+1) D ys2 H2,λσ2 H2 ⟨ys2,x2,f1,f3⟩=>⟨z.cps.size-(i+1),by omega,rfl,hlt,ys2,x2,f1,f3⟩,λx H'' y=>?_⟩;obtain⟨e1,c,hc,rfl⟩:=y;subst e1;have w:=hs i D ys c H'' hc h;have e:sU I te i D rest (v0 ⟨#[c]⟩)=λb H3=>(b=true->te (some (v0 ⟨#[c]⟩)::rest) H3 λv H4=>∃ zs,H4 D=some (v6 zs)/\zs.length<PySem.sizeLine/\∃ ys2 x2,some (v0 ⟨#[c]⟩)::rest=x2::rest/\I (i+1) D ys2 (upd H4 D (v6 (zs++[v]))))/\(b=false->∃ ys2 x2,some (v0 ⟨#[c]⟩)::rest=x2::rest/\I (i+1) D ys2 H3):=by
   funext b H3
   unfold sU;have e2:(λv H4=>yX I i D v H4)=λv H4=>∃ zs,H4 D=some (v6 zs)/\zs.length<PySem.sizeLine/\∃ ys2 x2,some (v0 ⟨#[c]⟩)::rest=x2::rest/\I (i+1) D ys2 (upd H4 D (v6 (zs++[v]))):=by
    funext v H4
    unfold yX;exact propext ⟨λ⟨zs,a,b,ys2,c⟩=>⟨zs,a,b,ys2,_,rfl,c⟩,λ⟨zs,a,b,ys2,_,_,c⟩=>⟨zs,a,b,ys2,c⟩⟩
   rw[e2];exact propext ⟨λ⟨p,q⟩=>⟨p,λz=>let⟨y,w⟩:=q z;⟨y,_,rfl,w⟩⟩,λ⟨p,q⟩=>⟨p,λz=>let⟨y,_,_,w⟩:=q z;⟨y,w⟩⟩⟩
  rw[e]at w;exact w
 .have:i=z.cps.size:=by omega
  subst this;exact .inl ⟨pi _,hd D ys H' h⟩
def B9 {x:V}(e:aF K H a xs)(fx:aD x=true)(fs:xs.all aD=true)(q:Q (.bl (!sM x xs)) H):mf K true x (ul a) H Q:=by unfold mf;exact .inl ⟨xs,.inl e,fx,fs,q⟩
abbrev jo (j:Nat):Str:=⟨#[113,97+j]⟩
def Aj {j:Nat}(h:j<8):Nm (jo j):=by
 refine⟨⟨by show 1<=2;omega,by show 2<=8;omega⟩,λc hc=>?_⟩;have hc':c=113\/c=97+j:=by simpa[jo] using hc
 rcases hc' with rfl|rfl<;>omega
def xV {i j:Nat}(h:jo i=jo j):i=j:=by
 have:=congrArg (λs:Str=>s.cps[1]?) h;simp[jo]at this;exact this
def mr:∀ {l m:List Str},l.Nodup->(∀ x ∈ l,x ∈ m)->l.length<=m.length
 | [],_,_,_=>Nat.zero_le _
 |a::l,m,nd,h=>by
  have ha:=h a li;have nd':=nodup_cons.mp nd;have:=mr (m:=m.erase a) nd'.2 (λx hx=>by
   have hne:x≠a:=λe=>nd'.1 (by rw[<-e];exact hx)
   exact(List.mem_erase_of_ne hne).mpr (h x (dl _ hx)))
  rw[List.length_erase_of_mem ha]at this;have:0<m.length:=List.length_pos_of_mem ha;rw[length_cons]
  omega
def xK (h:ns.length<=7):∃ j,j<8/\jo j ∉ ns:=by
 by_cases hh:∃ j,j<8/\jo j ∉ ns
 .exact hh
 .exfalso
  have all:∀ j,j<8->jo j ∈ ns:=λj hj=>Classical.byContradiction λz=>hh ⟨j,hj,z⟩
  have nd:((List.range 8).map jo).Nodup:=by
   exact List.Pairwise.map jo (λa b hne e=>hne (xV e)) (List.nodup_range (n:=8))
  have:=mr (m:=ns) nd λx hx=>by
   obtain⟨j,hj,rfl⟩:=List.mem_map.mp hx;exact all j (mem_range.mp hj)
  rw[ce,length_range]at this
  omega
def kl {w:Str}:∀ {ns:List Str},sM (v0 w) (ns.map v0)=decide (w ∈ ns)
 | []=>by unfold sM;rfl
 |x::ns=>by
  have ih:=kl (w:=w) (ns:=ns);unfold sM at ih⊢;rw[map_cons,any_cons,ih]
  by_cases e:w=x
  .subst e;simp[gF]
  .have e':¬ x=w:=λz=>e z.symm
   simp[gF,e,e']
def jw:(ns.map v0).all aD=true:=by
 rw[all_eq_true];intro x hx;obtain⟨w,_,rfl⟩:=List.mem_map.mp hx;rfl
abbrev FC (w:Str):Bool:=decide (1<=w.length)&&decide (w.length<=8)&&w.cps.toList.all λc=>decide (97<=c)&&decide (c<=122)
def Cj (h:FC w=true):Nm w:=by
 unfold FC at h;simp only[lw,decide_eq_true_eq,all_eq_true]at h;exact⟨h.1,h.2⟩
def zw (h0:0<=r)(h1:r<26):∃ c,gX ("abcdefghijklmnopqrstuvwxyz":Str).cps.toList r=some c/\97<=c/\c<=122:=by
 have hl:("abcdefghijklmnopqrstuvwxyz":Str).cps.toList.length=26:=by decide+kernel
 obtain⟨c,e,m⟩:=cZ (xs:=("abcdefghijklmnopqrstuvwxyz":Str).cps.toList) h0 (by rw[hl];exact h1);have ha:(("abcdefghijklmnopqrstuvwxyz":Str).cps.toList.all λc=>decide (97<=c)&&decide (c<=122))=true:=by decide+kernel
 have:=all_eq_true.mp ha c m;simp only[lw,decide_eq_true_eq]at this;exact⟨c,e,this⟩
def CQ (h0:0<=r)(h1:r<8):∃ w,gX [v0 "do",v0 "else",v0 "when",v0 "times",v0 "set",v0 "rows",v0 "and",v0 "a"] r=some (v0 w)/\Nm w:=by
 rcases(by omega:r=0\/r=1\/r=2\/r=3\/r=4\/r=5\/r=6\/r=7) with rfl|rfl|rfl|rfl|rfl|rfl|rfl|rfl<;>exact⟨_,rfl,Cj (by decide+kernel)⟩
def nX (cs:List Nat):Txt.join ("":Str) (cs.map λc=>⟨#[c]⟩)=⟨cs.toArray⟩:=by
 have h:=PyProof.Rows.join_nil_signs ⟨cs.toArray⟩;have e:PyProof.Rows.signs ⟨cs.toArray⟩=cs.map λc=>⟨#[c]⟩:=by unfold PyProof.Rows.signs;simp
 rw[e]at h;unfold Txt.join;have e0:("":Str)=⟨#[]⟩:=by decide+kernel
 rw[e0];rw[StrLaws.glued_eq_join];exact h
def yB {j c:Nat}(e:("abcdefgh":Str).cps[j]? =some c):("q":Str)++⟨#[c]⟩=jo j:=by
 have hj:j<8:=(Array.getElem?_eq_some_iff.mp e).1;have ha:((List.range 8).all λj=>match ("abcdefgh":Str).cps[j]? with|some c=>decide (("q":Str)++⟨#[c]⟩=jo j)|none=>false)=true:=by decide+kernel
 have:=all_eq_true.mp ha j (mem_range.mpr hj);rw[e]at this;exact of_decide_eq_true this
section
variable {h T:Addr}{m:Int}{ns:List Str}
def gr {u2 u4 u5:Option V}{E:St->XK}(hns:ns.length<=7)(hw:Nm w)(z:Sep (hand h m::pt T (v6 (ns.map v0))::O) H)(q:∀ w H',Nm w->w ∉ ns->Sep (hand h m::pt T (v6 (ns.map v0))::O) H'->D.rt (v0 w) H'):
  wB (b6 3 b9.body) ⟨tab,R,ae tab R (k-1),true⟩ D E [some (ul h),some (ul T),u2,some (v0 w),u4,u5] H:=by
 right;refine wb (z:="abcdefgh") (λj D ys H=>ys=((List.range j).filter (λi=>decide (jo i ∉ ns))).map (λi=>v0 (jo i))/\Sep (pt D (v6 ys)::hand h m::pt T (v6 (ns.map v0))::O) H) (λD hD=>⟨rfl,z.new (o:=v6 []) hD⟩) (λj D ys c H hc hI=>?_) (λD ys H hI=>?_)
 .obtain⟨e,z1⟩:=hI;have hj:j<8:=(Array.getElem?_eq_some_iff.mp hc).1;have hyl:ys.length<=8:=by
   rw[e,ce];exact Nat.le_trans (List.length_filter_le _ _) (by rw[length_range];omega)
  left;refine⟨by show 1+1<=100000;omega,?_⟩;rw[yB hc];left;refine B9 (aF.of (z1.get .k2)) rfl jw ?_;rw[kl];left
  by_cases g:jo j ∈ ns
  .refine sU.f (ys:=ys) (by rw[decide_eq_true g];rfl) ⟨?_,z1⟩;rw[range_succ,List.filter_append,dL,<-e,List.filter_cons_of_neg (by simpa using g),List.filter_nil,List.map_nil,append_nil]
  .refine sU.t (by rw[decide_eq_false g];rfl) ?_;left;refine⟨by show 1+1<=100000;omega,?_⟩;rw[yB hc];refine yX.mk z1.at nofun ⟨?_,z1.set rfl⟩;rw[range_succ,List.filter_append,dL,<-e,List.filter_cons_of_pos (by simpa using g),List.filter_nil]
   rfl
 .obtain⟨e,z1⟩:=hI;obtain⟨j,hj,hn⟩:=xK hns;have hm:j ∈ (List.range 8).filter (λi=>decide (jo i ∉ ns)):=mem_filter.mpr ⟨mem_range.mpr hj,decide_eq_true hn⟩;have e8:("abcdefgh":Str).cps.size=8:=by decide+kernel
  rw[e8]at e;obtain⟨i,rest,el⟩:∃ i rest,(List.range 8).filter (λi=>decide (jo i ∉ ns))=i::rest:=by
   cases hh:(List.range 8).filter (λi=>decide (jo i ∉ ns)) with
   |nil=>rw[hh]at hm;cases hm
   |cons i r=>exact⟨i,r,rfl⟩
  have hi:i ∈ (List.range 8).filter (λi=>decide (jo i ∉ ns)):=by rw[el];exact li
  obtain⟨hi8,hin⟩:=mem_filter.mp hi;have hi8:=mem_range.mp hi8;have hin:=of_decide_eq_true hin;rw[el,map_cons]at e;subst e;right;refine c8 z1.at nu ?_;right;rename_i p H2 z2;refine EK (aF.of (z2.get .k3)) rfl jw ?_;rw[kl];refine dB ?_
  by_cases g:w ∈ ns
  .rw[decide_eq_true g];refine c8 z2.at (v:=v0 (jo i)) rfl ?_;exact q _ _ (Aj hi8) hin z2.drop.drop
  .rw[decide_eq_false g];refine c8 z2.at (v:=v0 w) rfl ?_;exact q _ _ hw g z2.drop.drop
def qT (ro:Ro K R)(hk:2<=k)(hns:ns.length<=7)(hm:m<=1099000000000)(z:Sep (hand h m::pt T (v6 (ns.map v0))::O) H)(q:∀ w H',Nm w->w ∉ ns->Sep (hand h (m+12)::pt T (v6 (ns.map v0))::O) H'->Q (v0 w) H'):ae tab R k 58 [ul h,ul T] H Q E:=by
 delta b9;walk_at "gd";rename_i way H1 w0 w1 z1 p H2 z2 r H3 r0 r1 z3;obtain⟨w,e,hw⟩:=CQ r0 r1;refine c8 (z3.get .k1) e ?_;right;have z3:Sep (hand h (m+1+1)::pt T (v6 (ns.map v0))::O) H3:=z3.sub (by ac_nf);refine bO (λg=>?_) (λg=>?_)
 .clear z z1 z2;walk_at "gd";rename_i s H4 s0 s1 z4;refine⟨_,rfl,?_⟩;right;refine zK (n:=(1+s).toNat) nofun (λD ys H=>∃ cs:List Nat,ys=cs.map (λc=>v0 ⟨#[c]⟩)/\(∀ c ∈ cs,97<=c/\c<=122)/\Sep (pt D (v6 ys)::hand h (m+3+ys.length)::pt T (v6 (ns.map v0))::O) H) (λD hD=>⟨[],rfl,λc hc=>(by cases hc),(aN z4 (by simp;omega)).new (o:=v6 []) hD⟩) (λD ys H hl hI=>?_) (λD ys H hl hI=>?_)
  .obtain⟨cs,e1,hc,z5⟩:=hI;have z5':Sep (hand h (m+3+ys.length)::pt D (v6 ys)::pt T (v6 (ns.map v0))::O) H:=z5.pull .k1;clear z3 z4 z5;walk_at "gd";rename_i r2 H5 r20 r21 z6;obtain⟨c,e2,c0,c1⟩:=zw r20 r21;refine ET (by decide+kernel) e2 ?_;have z7:Sep (pt D (v6 ys)::hand h (m+3+ys.length+1)::pt T (v6 (ns.map v0))::O) H5:=z6.pull .k1;refine jL.mk z7.at nofun ⟨cs++[c],by rw[e1,dL];rfl,λx hx=>?_,?_⟩
   .rcases mem_append.mp hx with hx|hx
    .exact hc x hx
    .rw[mem_singleton.mp hx];exact⟨c0,c1⟩
   .have z8:=z7.set (o':=v6 (ys++[v0 ⟨#[c]⟩])) rfl;have z9:=aN (n:=m+3+(ys++[v0 ⟨#[c]⟩]).length) (z8.pull .k1) (by rw[ci];simp;omega);exact z9.pull .k1
  .obtain⟨cs,e1,hc,z5⟩:=hI;have hcl:cs.length=(1+s).toNat:=by rw[<-hl,e1,ce]
   left;refine wz (G:=⟨tab,R,ae tab R (k-1),true⟩) (zs:=cs.map λc=>⟨#[c]⟩) (by rw[z5.at,e1,List.map_map];rfl) ?_ (by decide) ?_
   .rw[List.map_map,ce];have:(cs.map ((λx:Str=>x.length)∘λc=>⟨#[c]⟩)).sum=cs.length:=by
     clear hcl e1 hc
     induction cs with
     |nil=>rfl
     |cons c cs ih=>rw[map_cons,sum_cons,ih,length_cons];show 1+cs.length=_;omega
    omega
   .rw[nX];refine gr (R:=R) (k:=k) hns (w:=⟨cs.toArray⟩) ⟨⟨?_,?_⟩,λc hc'=>hc c (by simpa using hc')⟩ (aN (n:=m+12) z5.drop nofun) (λw H' hw hn z=>q w H' hw hn z)
    .show 1<=cs.toArray.size;rw[ge];omega
    .show cs.toArray.size<=8;rw[ge];omega
 .exact gr (R:=R) (k:=k) hns hw (aN (n:=m+12) z3 nofun) (λw H' hw hn z=>q w H' hw hn z)
end
def g9 (h:¬ x ∈ kvs.map (·.1)):putK kvs x v=kvs++[(x,v)]:=by
 unfold putK;rw[if_neg];intro z;obtain⟨kv,m,e⟩:=any_eq_true.mp z;exact h (List.mem_map.mpr ⟨kv,m,of_decide_eq_true e⟩)
abbrev cg (ns:List Str):List Key:=ns.map Sum.inr
def bB:Sum.inr w ∈ cg ns ↔ w ∈ ns:=by
 unfold cg;rw[List.mem_map];exact⟨λ⟨x,h,e⟩=>by cases e;exact h,λh=>⟨w,h,rfl⟩⟩
def lL (cs:List (Str×Int)):(bA cs).map (·.1)=cg (cs.map (·.1)):=by
 unfold bA cg;rw[List.map_map,List.map_map]
 rfl
section
variable {B dx d1 d2:Addr}{kb:List (Key×V)}{cs:List (Str×Int)}{ns:List Str}{F G:List ai}{v:V}{n:Nat}
def uh (hk:1<=k)(z:Sep (pt B (wn (R.cad 14) dx [])::O) H)(q:∀ d1 d2 H',Sep (aM R B dx d1 d2 [] [] O) H'->Q v4 H'):ae tab R k 33 [ul B] H Q E:=by
 delta cN;right;rename_i d1 H1 z1 H2 z2 d2 H3 z3 H4 z4;exact q d1 d2 _ (z4.sub (.cons .k2 (.cons .k1 (.cons .e .refl))))
def zX (ro:Ro K R)(hk:3*n+4<=k)(hw:Nm w)(hb:kb.map (·.1)=cg (cs.map (·.1)))(hl:cs.length<=100)(hn:w ∉ cs.map (·.1))(hns:∀ w ∈ ns,w ∈ cs.map (·.1)) (ok:cP ns n b) (hv:k8 R F n v b) (z:Sep (aM R B dx d1 d2 kb cs (G++F)) H)
  (q:∀ l vs H',aw (gZ R F n) vs b->Sep (aM R B dx d1 d2 (kb++[(.inr w,ul l)]) (cs++[(w,aP (aJ cs) n b)]) (pt l (v6 vs)::(G++F))) H'->Q v4 H'):ae tab R k 35 [ul B,v0 w,v] H Q E:=by
 delta gy;right;refine uL ro nofun hw z (λH1 z1=>?_);right;refine⟨_,14,_,_,_,rfl,z1.at,rfl,rfl,?_⟩;right;refine yQ nofun z1 ?_;rw[t8 (by rw[hb,bB];exact hn)];right;refine nZ ro (λw h=>by rw[hb,bB];exact hns w h) n nofun ok hv z1 (λH2 z2=>?_);right;refine vK ro hns n nofun ok hv z2 (λH3 z3=>?_);right;refine qm (k:=.inr w) z3 .k2 (by unfold bA;rw[ce];omega) (g9 (by rw[lL,bB];exact hn)) (λH4 z4=>?_);obtain⟨l0,vs,rfl,m,a⟩:=hv;right;refine dE z4 (fz (G:=[_,_,_]++G) m z4) (λl H5 z5=>?_);right;have hbl:kb.length<=10000:=by
  have:=congrArg List.length hb;unfold cg at this;rw[ce,ce,ce]at this
  omega
 refine qm (k:=.inr w) z5 .k2 hbl (g9 (by rw[hb,bB];exact hn)) (λH6 z6=>?_);right;have e:bA (cs++[(w,aP (aJ cs) n b)])=bA cs++[(.inr w,ut (aP (aJ cs) n b))]:=by unfold bA;rw[dL];rfl
 refine q l vs _ a ?_;unfold aM;rw[e];exact z6.sub (.cons .k1 (.cons .k1 (.cons .k1 (.cons .e .refl))))
def qY (ro:Ro K R)(hk:3*n+4<=k)(hb:kb.map (·.1)=cg (cs.map (·.1)))(hns:∀ w ∈ ns,w ∈ cs.map (·.1)) (ok:cP ns n b) (hv:k8 R F n v b) (z:Sep (aM R B dx d1 d2 kb cs (G++F)) H) (q:∀ H',Sep (aM R B dx d1 d2 kb cs (G++F)) H'->Q (ut (aP (aJ cs) n b)) H'):ae tab R k 38 [ul B,v] H Q E:=by
 delta ic;right;refine nZ ro (λw h=>by rw[hb,bB];exact hns w h) n nofun ok hv z (λH2 z2=>?_);right;exact vK ro hns n nofun ok hv z2 q
end
abbrev bt (N:List (Str×List Itm)):List (Str×Int):=N.foldl (λcs p=>cs++[(p.1,aP (aJ cs) 2 p.2)]) []
variable {N:List (Str×List Itm)}{p:Str×List Itm}
def dy:bt (N++[p])=bt N++[(p.1,aP (aJ (bt N)) 2 p.2)]:=by
 unfold bt;rw[List.foldl_append]
 rfl
def pe:∀ (N:List (Str×List Itm)) (a:List (Str×Int)),(N.foldl (λcs p=>cs++[(p.1,aP (aJ cs) 2 p.2)]) a).map (·.1)=a.map (·.1)++N.map (·.1)
 | [],a=>by rw[List.foldl_nil,List.map_nil,append_nil]
 |p::N,a=>by
  rw[foldl_cons,pe N,dL,le]
  rfl
def bN (N:List (Str×List Itm)):(bt N).map (·.1)=N.map (·.1):=pe N []
abbrev mZ (F:List ai)(kvs:List (Key×V))(N:List (Str×List Itm)):Prop:=kvs.map (·.1)=cg (N.map (·.1))/\∀ j w b,N[j]? =some (w,b)->∃ l,kvs[j]? =some (.inr w,ul l)/\gb F 2 (ul l) b/\cP ((N.take j).map (·.1)) 2 b
abbrev zl (N:List (Str×List Itm)):Prop:=(N.map (·.1)).Nodup/\∀ w ∈ N.map (·.1),Nm w
def mZ.mono (h:mZ F kvs N)(up:∀ A ∈ F,A ∈ F'):mZ F' kvs N:=⟨h.1,λj w b e=>let⟨l,e1,s,o⟩:=h.2 j w b e;⟨l,e1,gb.mono up s,o⟩⟩
def mZ.len (h:mZ F kvs N):kvs.length=N.length:=by
 have:=congrArg List.length h.1;unfold cg at this
 rwa [ce,ce,ce]at this
def mZ.snoc (h:mZ F kvs N)(s:gb F 2 (ul l) b)(o:cP (N.map (·.1)) 2 b):mZ F (kvs++[(.inr w,ul l)]) (N++[(w,b)]):=by
 refine⟨by rw[dL,h.1];unfold cg;rw[dL,dL];rfl,λj w' b' e=>?_⟩
 by_cases hj:j<N.length
 .rw[getElem?_append_left hj]at e;obtain⟨l',e1,s',o'⟩:=h.2 j w' b' e;refine⟨l',by rw[getElem?_append_left (by rw[h.len];exact hj)];exact e1,s',?_⟩;rw[List.take_append_of_le_length nofun];exact o'
 .have hj':j=N.length:=by
   have:=(ss.mp e).1;rw[ci]at this;simp at this
   omega
  subst hj';rw[getElem?_append_right (pi _),Nat.sub_self]at e;cases e;refine⟨l,by rw[<-h.len,getElem?_append_right (pi _),Nat.sub_self];rfl,s,?_⟩;rw[List.take_append_of_le_length (pi _),take_of_length_le (pi _)];exact o
section
variable {F G:List ai}{h nd:Addr}{m most:Int}
def sL (ro:Ro K R)(hk:8<=k)(h0:0<=most)(h5:most<=5)(hm:m<=1000000000000)(z:Sep (hand h m::(G++F)) H)
  (q:∀ nd kvs N Δ H',mZ (Δ++F) kvs N->zl N->N.length<=5->Sep (hand h (m+100000000)::pt nd (.dK kvs)::(G++(Δ++F))) H'->Q (ul nd) H'):ae tab R k 61 [ul h,ut most] H Q E:=by
 have hb2:eB 2=10000000:=by decide
 delta fg;walk_at "gd";rename_i nd H1 z1 r H2 r0 r1 z2;refine fh (λj U H=>∃ u3 u4 u5,U=[some (ul h),some (ut most),some (ul nd),u3,u4,u5]/\∃ kvs N Δ,N.length=j/\mZ (Δ++F) kvs N/\zl N/\Sep (hand h (m+1+(j:Int)*10000020)::pt nd (.dK kvs)::(G++(Δ++F))) H) ⟨_,_,_,rfl,[],[],[],rfl,⟨rfl,λj w b e=>nomatch e⟩,⟨List.nodup_nil,λw hw=>(by cases hw)⟩,aN z2 (by simp)⟩ (λj U H hj hI=>?_) (λU H hI=>?_)
 .obtain⟨u3,u4,u5,rfl,kvs,N,Δ,hN,hR,hn,z3⟩:=hI;clear z z1 z2;have hkl:=hR.len;have hkeys:kvs.map (λkv=>kV kv.1)=(N.map (·.1)).map v0:=by
   have:=congrArg (List.map kV) hR.1;unfold cg at this;rw[List.map_map,List.map_map]at this;exact this
  right;refine fe rfl z3 (.inl (z3.get .k1)) (λT H4 z4=>?_);rw[hkeys]at z4;right;refine qT ro nofun (by rw[ce];omega) nofun (z4.pull .k1) (λw H5 hw hwn z5=>?_);have z5:=(z5.pull .k1).drop;right;refine fe rfl z5 (.inl (z5.get .k1)) (λT2 H6 z6=>?_);rw[hkeys]at z6;right;have z7:Sep (hand h (m+1+(j:Int)*10000020+12)::pt T2 (v6 ((N.map (·.1)).map v0))::((pt nd (.dK kvs)::G)++(Δ++F))) H6:=z6.pull .k1;refine jV ro 2 (k:=k-1) nofun ⟨by omega,by omega⟩ (by rw[hb2];omega) (by rw[ce];omega) z7 (λl b Δ1 H7 ok hlb s z8=>?_);have z8:Sep (hand h (m+1+(j:Int)*10000020+12+eB 2)::pt nd (.dK kvs)::(G++(Δ1++(Δ++F)))) H7:=(z8.pull .k1).drop;right;refine nr ro 2 (k:=k-1) (F:=Δ1++(Δ++F)) (G:=[hand h _,pt nd (.dK kvs)]++G) nofun ok s z8 (λc H8 z9=>?_);have z9:Sep (hand h (m+1+(j:Int)*10000020+12+eB 2)::pt nd (.dK kvs)::(G++(Δ1++(Δ++F)))) H8:=z9;left;refine dB ?_;left;obtain⟨l0,vs,e0,hp,a⟩:=s;cases e0;have hvl:vs.length<=30:=by rw[a.1];exact ok.1
  refine sk (i:=b2i (!c)) z9 (fz (G:=[_,_]++G) hp z9) (by have:=iB (!c);omega) (by have:=iB (!c);omega) nofun (λp H9 z10=>?_);right;refine qm (k:=.inr w) z10 .k2 (by rw[hkl];omega) (g9 (by rw[hR.1,bB];exact hwn)) (λH10 z11=>?_);obtain⟨b',vs',e',a',ok'⟩:∃ b' vs',(sn (b2i (!c)).toNat vs).flatten=vs'/\aw (gp (Δ1++(Δ++F)) 2) vs' b'/\cP (N.map (·.1)) 2 b':=by
   cases c
   .exact⟨b,vs,by show(sn 1 vs).flatten=vs;simp,a,ok⟩
   .exact⟨[],[],rfl,.nil,by decide,λi hi=>(by cases hi)⟩
  rw[e']at z11;have z12:Sep (hand h (m+1+((j+1:Nat):Int)*10000020)::pt nd (.dK (kvs++[(.inr w,ul p)]))::(G++([pt p (v6 vs')]++(Δ1++(Δ++F))))) H10:=Sep.mv (P:=[hand h _,pt nd _]) (Δ:=[pt p (v6 vs')]) (L:=G) (O:=Δ1++(Δ++F)) (aN (z11.sub (.cons .k1 (.cons .k1 .refl))) (by rw[hb2];omega));have up:∀ A,A ∈ Δ1++(Δ++F)->A ∈ ((pt p (v6 vs')::(Δ1++Δ))++F):=λA h=>by
   rw[cons_append,le];exact dl _ h
  refine⟨_,_,_,rfl,kvs++[(.inr w,ul p)],N++[(w,b')],pt p (v6 vs')::(Δ1++Δ),by rw[ci,hN];rfl,(hR.mono λA h=>up A (aa h)).snoc ⟨p,vs',rfl,li,a'.map λv i=>gp.mono up⟩ ok',⟨?_,?_⟩,?_⟩
  .rw[dL];refine nodup_append.mpr ⟨hn.1,by simp,λx hx y hy=>?_⟩;have:y=w:=by simpa using hy
   rw[this];intro e;exact hwn (e▸hx)
  .intro x hx;rw[dL]at hx;rcases mem_append.mp hx with hx|hx
   .exact hn.2 x hx
   .have:x=w:=by simpa using hx
    rw[this];exact hw
  .rw[cons_append,le];exact z12
 .obtain⟨u3,u4,u5,rfl,kvs,N,Δ,hN,hR,hn,z3⟩:=hI;right;exact q nd kvs N Δ _ hR hn nofun (aN z3 nofun)
end
def kQ:∀ {kvs:List (Key×V)}{j:Nat}{x:Key}{v:V},(kvs.map (·.1)).Nodup->kvs[j]? =some (x,v)->a8 kvs x=some v
 |p::kvs,0,x,v,_,h=>by cases h;exact cu rfl
 |p::kvs,j+1,x,v,nd,h=>by
  have nd':=nodup_cons.mp nd;have h':kvs[j]? =some (x,v):=h;rw[cV (λe=>nd'.1 (by show p.1 ∈ _;rw[e];exact List.mem_map.mpr ⟨_,cr h',rfl⟩))];exact kQ nd'.2 h'
def vf {a b:List (Key×V)}(h:a8 a x=some v):a8 (a++b) x=some v:=by
 unfold a8 at h⊢;rw[List.find?_append];cases e:a.find? (λkv=>decide (kv.1=x)) with
 |none=>rw[e]at h;cases h
 |some y=>rw[e]at h;exact h
def uj {a b:List (Key×V)}(h:¬ x ∈ a.map (·.1)):a8 (a++b) x=a8 b x:=by
 unfold a8;rw[List.find?_append];have e:a.find? (λkv=>decide (kv.1=x))=none:=List.find?_eq_none.mpr λkv hm hd=>h (List.mem_map.mpr ⟨kv,hm,of_decide_eq_true hd⟩)
 rw[e]
 rfl
def kR (h:mZ F kvs N)(hn:zl N):(kvs.map (·.1)).Nodup:=by
 rw[h.1];unfold cg;exact List.Pairwise.map Sum.inr (λa b hne e=>hne (Sum.inr.inj e)) hn.1
def zk {j:Nat}{kv:Key×V}(h:mZ F kvs N)(e:kvs[j]? =some kv):∃ w b l,N[j]? =some (w,b)/\kv=(.inr w,ul l)/\gb F 2 (ul l) b/\cP ((N.take j).map (·.1)) 2 b:=by
 have hj:=(ss.mp e).1;rw[h.len]at hj;have e2:N[j]? =some (N[j]'hj):=lf hj;obtain⟨l,e1,s,o⟩:=h.2 j _ _ e2;rw[e]at e1;exact⟨_,_,l,e2,Option.some.inj e1,s,o⟩
def vw {j:Nat}(hn:zl N)(e:N[j]? =some (w,b)):w ∉ (N.take j).map (·.1):=by
 have hj:=(ss.mp e).1;have e3:N.map (·.1)=(N.take j).map (·.1)++w::(N.drop (j+1)).map (·.1):=by
  rw[<-map_cons (f:=λp:Str×List Itm=>p.1) (a:=(w,b)),<-dL]
  congr 1
  have:=ss.mp e;obtain⟨h1,h2⟩:=this;rw[<-h2,List.getElem_cons_drop,take_append_drop]
 have nd:=hn.1;rw[e3]at nd;intro hm;exact(nodup_append.mp nd).2.2 w hm w li rfl
def take_snoc {j:Nat}(e:N[j]? =some p):N.take (j+1)=N.take j++[p]:=by rw[take_succ,e];rfl
abbrev mW (R:Rt)(F:List ai)(kb:List (Key×V))(N:List (Str×List Itm)):Prop:=∀ w b,(w,b) ∈ N->∃ l,a8 kb (.inr w)=some (ul l)/\k8 R F 2 (ul l) b
section
variable {F G:List ai}{nd cd:Addr}{kvs:List (Key×V)}{N:List (Str×List Itm)}
def w6 (ro:Ro K R)(hk:14<=k)(hR:mZ F kvs N)(hn:zl N)(h5:N.length<=5)(z:Sep (pt nd (.dK kvs)::(G++F)) H)
  (q:∀ B dx d1 d2 kb o Δ H',kb.map (·.1)=cg (N.map (·.1))->mW R (Δ++F) kb N->Sep (aM R B dx d1 d2 kb (bt N) (pt nd (.aH o (.dK kvs))::(G++(Δ++F)))) H'->Q (ul B) H'):ae tab R k 64 [ul nd] H Q E:=by
 delta gH;right;intro B dx h1 h2 h3;refine uh nofun (ef z h1 h2 h3) (λd1 d2 H1 z1=>?_);refine⟨rfl,?_⟩;right;have z1:Sep (pt nd (.dK kvs)::aM R B dx d1 d2 [] [] (G++F)) H1:=z1.sub (.cons (.j2 (.j2 .e)) (.cons .e (.cons .e (.cons .e (.drop .refl)))));refine Ec z1 (λo H2 z2=>?_);have z2:Sep (aM R B dx d1 d2 [] [] (pt nd (.aH o (.dK kvs))::(G++F))) H2:=z2.sub (.cons .k1 (.cons .k1 (.cons .k1 .refl)));refine qi (o:=o) (kvs:=kvs) (λj U H=>∃ u2,U=[some (ul nd),some (ul B),u2]/\∃ kb Δ,kb.map (·.1)=cg ((N.take j).map (·.1))/\mW R (Δ++F) kb (N.take j)/\Sep (aM R B dx d1 d2 kb (bt (N.take j)) (pt nd (.aH o (.dK kvs))::(G++(Δ++F)))) H) ⟨_,rfl,[],[],rfl,λw b hm=>(by cases hm),z2⟩ ?_ ?_ ?_
 .rintro j U H ⟨u2,rfl,kb,Δ,_,_,z⟩;exact z.get .k3
 .rintro j kv U H hx ⟨u2,rfl,kb,Δ,hkb,hB,z⟩;obtain⟨w,b,l,e,rfl,s,ok⟩:=zk hR hx;have hwn:=vw hn e;have hcn:=bN (N.take j);right;refine⟨_,14,_,_,_,rfl,z.at,rfl,rfl,?_⟩;right;refine uy (k:=.inr w) (z.get .k3) (kQ (kR hR hn) hx) ?_;refine u0 ro 2 (k:=k-1) (F:=Δ++F) (G:=[_,_,_,_]++G) nofun ok (gb.mono (λA=>aa) s) z (λp Δ1 H3 hm z3=>?_);right;refine zX ro (n:=2) (G:=pt nd (.aH o (.dK kvs))::G) (F:=Δ1++(Δ++F)) (ns:=(N.take j).map (·.1)) nofun (hn.2 w (List.mem_map.mpr ⟨_,cr e,rfl⟩)) (by rw[hkb,hcn]) ?_ (by rw[hcn];exact hwn) (λw h=>by rw[hcn];exact h) ok hm z3 (λl' vs H4 a z4=>?_)
  .have:=congrArg List.length hcn;rw[ce,ce,db]at this
   omega
  .right;refine⟨_,rfl,kb++[(.inr w,ul l')],pt l' (v6 vs)::(Δ1++Δ),?_,?_,?_⟩
   .rw[dL,hkb,take_snoc e];unfold cg;rw[dL,dL]
    rfl
   .have up:∀ A,A ∈ Δ1++(Δ++F)->A ∈ (pt l' (v6 vs)::(Δ1++Δ))++F:=λA h=>by
     rw[cons_append,le];exact dl _ h
    intro w' b' hm;rw[take_snoc e]at hm;rcases mem_append.mp hm with hm|hm
    .obtain⟨l2,e2,i2⟩:=hB w' b' hm;exact⟨l2,vf e2,k8.mono (λA h=>up A (aa h)) i2⟩
    .cases mem_singleton.mp hm;exact⟨l',(uj (by rw[hkb,bB];exact hwn)).trans (cu rfl),l',vs,rfl,li,a.map λv i=>gZ.mono up⟩
   .rw[take_snoc e,dy,cons_append,le];exact Sep.mv (P:=[_,_,_]) (Δ:=[pt l' (v6 vs)]) (L:=pt nd (.aH o (.dK kvs))::G) (O:=Δ1++(Δ++F)) z4
 .rintro U H ⟨u2,rfl,kb,Δ,hkb,hB,z⟩;right;rw[hR.len,take_of_length_le (pi _)]at hkb hB z;exact q B dx d1 d2 kb o Δ _ hkb hB z
def qE {o:Obj}(ro:Ro K R)(hk:6<=k)(hR:mZ F kvs N)(hn:zl N)(h5:N.length<=5)(z:Sep (pt nd (.aH o (.dK kvs))::(G++F)) H)
  (q:∀ cd H',Sep (pt cd (.dK (bA (bt N)))::pt nd (.aH o (.dK kvs))::(G++F)) H'->Q (ul cd) H'):ae tab R k 65 [ul nd] H Q E:=by
 delta dM;right;rename_i cd H1 z1;refine CZ (z1.get .k1) ?_;refine qi (o:=o) (kvs:=kvs) (λj U H=>∃ u2,U=[some (ul nd),some (ul cd),u2]/\Sep (pt cd (.dK (bA (bt (N.take j))))::pt nd (.aH o (.dK kvs))::(G++F)) H) ⟨_,rfl,z1⟩ ?_ ?_ ?_
 .rintro j U H ⟨u2,rfl,z⟩;exact z.get .k1
 .rintro j kv U H hx ⟨u2,rfl,z⟩;obtain⟨w,b,l,e,rfl,s,ok⟩:=zk hR hx;have hwn:=vw hn e;have hcn:=bN (N.take j);right;refine uy (k:=.inr w) (z.get .k1) (kQ (kR hR hn) hx) ?_;refine tS ro (λw h=>by rw[hcn];exact h) 2 (k:=k-1) (G:=pt nd (.aH o (.dK kvs))::G) nofun ok s z (λH2 z2=>?_);right;refine qm (k:=.inr w) z2 .e ?_ (g9 (by rw[lL,bB,hcn];exact hwn)) (λH3 z3=>?_)
  .have:=congrArg List.length hcn;rw[ce,ce,db]at this;unfold bA;rw[ce]
   omega
  .right;refine⟨_,rfl,?_⟩;rw[take_snoc e,dy];have ek:bA (bt (N.take j)++[(w,aP (aJ (bt (N.take j))) 2 b)])=bA (bt (N.take j))++[(.inr w,ut (aP (aJ (bt (N.take j))) 2 b))]:=by unfold bA;rw[dL];rfl
   rw[ek];exact z3
 .rintro U H ⟨u2,rfl,z⟩;right;rw[hR.len,take_of_length_le (pi _)]at z;exact q cd _ z
end
section
variable {B dx d1 d2 cd:Addr}{kb:List (Key×V)}{cs:List (Str×Int)}{ns:List Str}{F G:List ai}{v:V}{n:Nat}
end
abbrev pre (h:List Int)(L:List (List Int×Rw)):List (List Int×Rw):=L.map λp=>(h++p.1,p.2)
abbrev a7 (f:Itm->List (List Int×Rw)):Nat->List Itm->List (List Int×Rw)
 |_,[]=>[]
 |j,i::b=>pre [(j:Int)] (f i)++a7 f (j+1) b
abbrev mY (o:Int)(one oth:List (List Int×Rw))(e:Bool):List (List Int×Rw):=match e with
 |true=>([],.hop one.length (some (1-o)))::one
 |false=>([],.hop (one.length+1) (some (1-o)))::(one++([2],.hop oth.length none)::oth)
abbrev ba (nb:Str->List Itm):Nat->Itm->List (List Int×Rw)
 |_,.row r=>[([],r)]
 |n+1,.dO w=>a7 (ba nb n) 0 (nb w)
 |n+1,.tms m b=>((List.range m.toNat).map λt:Nat=>pre [(t:Int)] (a7 (ba nb n) 0 b)).flatten
 |n+1,.whn o b c=>mY o (pre [0] (a7 (ba nb n) 0 b)) (pre [1] (a7 (ba nb n) 0 c)) (c.length ==0)
 |0,.dO _=>[]
 |0,.tms _ _=>[]
 |0,.whn _ _ _=>[]
noncomputable abbrev aC (nb:Str->List Itm)(n:Nat)(b:List Itm):List (List Int×Rw):=a7 (ba nb n) 0 b
variable {L:List (List Int×Rw)}
def af:(pre h L).length=L.length:=by unfold pre;rw[ce]
def g5 {h':List Int}:pre h (pre h' L)=pre (h++h') L:=by
 unfold pre;rw[List.map_map];refine List.map_congr_left λp _=>?_
 show(h++(h'++p.1),p.2)=(h++h'++p.1,p.2);rw[le]
def pre_app {L':List (List Int×Rw)}:pre h (L++L')=pre h L++pre h L':=by unfold pre;rw[dL]
def kN {f:Itm->List (List Int×Rw)}{i:Itm}:∀ {b:List Itm}{j:Nat},a7 f j (b++[i])=a7 f j b++pre [((j+b.length:Nat):Int)] (f i)
 | [],j=>by
  show pre [(j:Int)] (f i)++[]=[]++pre [((j+0:Nat):Int)] (f i);rw[append_nil,nil_append,Nat.add_zero]
 |x::b,j=>by
  show pre [(j:Int)] (f x)++a7 f (j+1) (b++[i])=(pre [(j:Int)] (f x)++a7 f (j+1) b)++pre [((j+(b.length+1):Nat):Int)] (f i);rw[kN,le,show j+1+b.length=j+(b.length+1) by omega]
structure oM (Nl:List (Str×List Itm)) (nb:Str->List Itm) (c:Str->Int):Prop where
 at_:∀ j w b,Nl[j]? =some (w,b)->nb w=b/\cP ((Nl.take j).map (·.1)) 2 b/\c w=aP c 2 b
variable {Nl:List (Str×List Itm)}{nb:Str->List Itm}
def oM.mem {i:Nat}(h:oM Nl nb c)(hw:w ∈ (Nl.take i).map (·.1)):∃ j,j<i/\cP ((Nl.take j).map (·.1)) 2 (nb w)/\c w=aP c 2 (nb w)/\Nl[j]? =some (w,nb w):=by
 obtain⟨⟨w',b⟩,hm,rfl⟩:=List.mem_map.mp hw;obtain⟨j,hj⟩:=List.mem_iff_getElem?.mp hm;have hj1:=(ss.mp hj).1;rw[db]at hj1;rw[List.getElem?_take_of_lt nofun]at hj;obtain⟨e,o,cc⟩:=h.at_ j _ _ hj;exact⟨j,by omega,by rw[e];exact o,by rw[e];exact cc,by rw[e];exact hj⟩
def dG {f:Itm->List (List Int×Rw)}{g:Itm->Int}:∀ {b:List Itm}{j:Nat},(∀ i ∈ b,((f i).length:Int)=g i)->((a7 f j b).length:Int)=(b.map g).sum
 | [],j,_=>rfl
 |x::b,j,h=>by
  show((pre [(j:Int)] (f x)++a7 f (j+1) b).length:Int)=((x::b).map g).sum;rw[ci,af,map_cons,sum_cons,Int.natCast_add,h x li,dG λi hi=>h i (dl _ hi)]
def BK (h:oM Nl nb c):∀ {f n i:Nat}{it:Itm},n+4*i<=f->jJ ((Nl.take i).map (·.1)) n it->((ba nb f it).length:Int)=iM c n it:=by
 intro f
 induction f with
 |zero=>
  intro n i it hf ok;cases it with
  |row r=>cases n<;>rfl
  |dO w=>
   have hw:w ∈ (Nl.take i).map (·.1):=by cases n<;>exact ok
   obtain⟨j,hj,_⟩:=h.mem hw
   omega
  |tms m b=>cases n with
   |zero=>exact ok.elim
   |succ n=>omega
  |whn o b d=>cases n with
   |zero=>exact ok.elim
   |succ n=>omega
 |succ f ih=>
  intro n i it hf ok;cases it with
  |row r=>cases n<;>rfl
  |dO w=>
   have hw:w ∈ (Nl.take i).map (·.1):=by cases n<;>exact ok
   obtain⟨j,hj,okj,cj,_⟩:=h.mem hw;have e:((ba nb (f+1) (.dO w)).length:Int)=aP c 2 (nb w):=dG λx hx=>ih (n:=2) (i:=j) nofun (okj.2 x hx)
   rw[e,<-cj];cases n<;>rfl
  |tms m b=>cases n with
   |zero=>exact ok.elim
   |succ n=>
    have e:((a7 (ba nb f) 0 b).length:Int)=aP c n b:=dG λx hx=>ih (n:=n) (i:=i) nofun (ok.2.2 x hx)
    have e2:∀ (L:List (List Int×Rw)) (k:Nat),(((List.range k).map λt:Nat=>pre [(t:Int)] L).flatten.length:Int)=(k:Int)*(L.length:Int):=by
     intro L k
     induction k with
     |zero=>simp
     |succ k ihk=>
      rw[range_succ,dL,flatten_append,ci,Int.natCast_add,ihk];simp[af,Int.add_mul]
    show((((List.range m.toNat).map λt:Nat=>pre [(t:Int)] (a7 (ba nb f) 0 b)).flatten.length:Nat):Int)=m*aP c n b;rw[e2,e,Int.toNat_of_nonneg ok.1.1]
  |whn o b d=>cases n with
   |zero=>exact ok.elim
   |succ n=>
    have e:((a7 (ba nb f) 0 b).length:Int)=aP c n b:=dG λx hx=>ih (n:=n) (i:=i) nofun (ok.2.1.2 x hx)
    have e2:((a7 (ba nb f) 0 d).length:Int)=aP c n d:=dG λx hx=>ih (n:=n) (i:=i) nofun (ok.2.2.2 x hx)
    show((mY o (pre [0] (a7 (ba nb f) 0 b)) (pre [1] (a7 (ba nb f) 0 d)) (d.length ==0)).length:Int)=1+aP c n b+aP c n d+(if d.length=0 then 0 else 1)
    by_cases hd:d.length=0
    .have hd':d=[]:=length_eq_zero_iff.mp hd;subst hd';show(((pre [0] (a7 (ba nb f) 0 b)).length+1:Nat):Int)=1+aP c n b+0+0;rw[af]
     omega
    .rw[if_neg hd,show(d.length ==0)=false from beq_eq_false_iff_ne.mpr hd];unfold mY;rw[length_cons,ci,length_cons,af,af]
     omega
def dv {f n i:Nat}(h:oM Nl nb c)(hf:n+4*i<=f)(ok:cP ((Nl.take i).map (·.1)) n b):((aC nb f b).length:Int)=aP c n b:=dG λx hx=>BK h hf (ok.2 x hx)
def cW {f:Itm->List (List Int×Rw)}{K:Nat}:∀ {b:List Itm}{j:Nat},(∀ i ∈ b,∀ p ∈ f i,p.1.length<=K)->∀ p ∈ a7 f j b,p.1.length<=K+1
 | [],j,_,p,hp=>by cases hp
 |x::b,j,h,p,hp=>by
  rcases mem_append.mp hp with hp|hp
  .obtain⟨p',hp',rfl⟩:=List.mem_map.mp hp;have:=h x li p' hp';show([(j:Int)]++p'.1).length<=K+1;rw[ci];simp
   omega
  .exact cW (λi hi=>h i (dl _ hi)) p hp
def gT:∀ {f:Nat}{it:Itm},∀ p ∈ ba nb f it,p.1.length<=2*f+1:=by
 intro f
 induction f with
 |zero=>
  intro it p hp;cases it with
  |row r=>rw[mem_singleton.mp hp];exact Nat.zero_le _
  |dO w=>cases hp
  |tms m b=>cases hp
  |whn o b c=>cases hp
 |succ f ih=>
  intro it p hp;have hb:∀ b:List Itm,∀ p ∈ a7 (ba nb f) 0 b,p.1.length<=2*f+1+1:=λb=>cW λi _=>ih
  have hpre:∀ (t:Int) (b:List Itm),∀ p ∈ pre [t] (a7 (ba nb f) 0 b),p.1.length<=2*f+3:=λt b p hp=>by
   obtain⟨p',hp',rfl⟩:=List.mem_map.mp hp;have:=hb b p' hp';show([t]++p'.1).length<=_;rw[ci];simp
   omega
  cases it with
  |row r=>rw[mem_singleton.mp hp];exact Nat.zero_le _
  |dO w=>have:=hb _ p hp;omega
  |tms m b=>
   obtain⟨L,hL,hp⟩:=List.mem_flatten.mp hp;obtain⟨t,_,rfl⟩:=List.mem_map.mp hL;have:=hpre t b p hp
   omega
  |whn o b c=>
   have hp':p ∈ mY o (pre [0] (a7 (ba nb f) 0 b)) (pre [1] (a7 (ba nb f) 0 c)) (c.length ==0):=hp;have one:∀ p ∈ pre [0] (a7 (ba nb f) 0 b),p.1.length<=2*(f+1)+1:=λp hp=>by have:=hpre 0 b p hp;omega
   have oth:∀ p ∈ pre [1] (a7 (ba nb f) 0 c),p.1.length<=2*(f+1)+1:=λp hp=>by have:=hpre 1 c p hp;omega
   unfold mY at hp'
   split at hp'
   .rcases lv.mp hp' with rfl|hp'
    .exact Nat.zero_le _
    .exact one p hp'
   .rcases lv.mp hp' with rfl|hp'
    .exact Nat.zero_le _
    .rcases mem_append.mp hp' with hp'|hp'
     .exact one p hp'
     .rcases lv.mp hp' with rfl|hp'
      .show 1<=_;omega
      .exact oth p hp'
@[irreducible] noncomputable def lx (I:Addr->List V->Hp->Prop) (D:Addr) (ys:List V) (rest:St) (x y:Option V):VK:=λv H3=>∃ zs,H3 D=some (v6 zs)/\zs.length<bn/\∃ ys2 x2 x3,x::y::rest=x2::x3::rest/\ys2.length=ys.length+1/\I D ys2 (upd H3 D (v6 (zs++[v])))
def lx.mk {I:Addr->List V->Hp->Prop}{D:Addr}{x y:Option V}(h1:H3 D=some (v6 ys))(hl:ys.length<=999)(h2:I D (ys++[v]) (upd H3 D (v6 (ys++[v])))):lx I D ys rest x y v H3:=
 by unfold lx;exact⟨ys,h1,bI nofun,ys++[v],x,y,rfl,by simp,h2⟩
def iH (hn:xs.length<=1000)(I:Addr->List V->Hp->Prop)(hl:∀ D ys H,I D ys H->aF R.K H a xs) (h0:∀ D,H D=none->I D [] (upd H D (v6 [])))
  (hs:∀ D ys x H',xs[ys.length]? =some x->I D ys H'->∃ t v1 v2,x=ul t/\bF R.K H' t [v1,v2]/\te (some v1::some v2::rest) H' (lx I D ys rest (some v1) (some v2)))
  (hd:∀ D ys H',ys.length=xs.length->I D ys H'->Q (ul D) H'):LCt R.K 2 te (xR R.K a) (none::none::rest) H Q:=by
 unfold LCt;intro D hD;refine⟨λi m σ' H'=>m=xs.length-i/\i<=xs.length/\∃ ys x0 x1,σ'=x0::x1::rest/\ys.length=i/\I D ys H',⟨xs.length,by simp,Nat.zero_le _,[],none,none,rfl,rfl,h0 D hD⟩,λi m σ' H' ⟨e,hi,ys,x0,x1,e1,e2,h⟩=>?_⟩;subst e1 e2
 by_cases hlt:ys.length<xs.length
 .refine .inr ⟨⟨xs,xs[ys.length],hl D ys H' h,lf hlt⟩,λσ2 H2=>∃ ys2 x2 x3,σ2=x2::x3::rest/\ys2.length=ys.length+1/\I D ys2 H2,λσ2 H2 ⟨ys2,x2,x3,f1,f2,f3⟩=>⟨xs.length-(ys.length+1),by omega,rfl,hlt,ys2,x2,x3,f1,f2,f3⟩,λx H'' y=>?_⟩;obtain⟨e1,hy⟩:=y;subst e1;obtain⟨t,v1,v2,rfl,ht,z⟩:=hs D ys x H'' (hy xs (hl D ys H'' h)) h;refine⟨t,[v1,v2],rfl,ht,rfl,rfl,?_⟩;unfold lx at z;exact⟨λ_=>z,λe=>nomatch e⟩
 .have:ys.length=xs.length:=by omega
  exact .inl ⟨⟨xs,hl D ys H' h,Nat.le_of_eq this.symm⟩,hd D ys H' this h⟩
def AW (s:Sep O H){b:Addr}(e1:H a=some (wf xs))(e2:H b=some (wf ys))(hx:xs≠[])(hl:xs.length+ys.length<=1000)(h:∀ p H',Sep (tu p (xs++ys)::O) H'->Q (ul p) H'):qZ K a b H Q:=by
 unfold qZ;refine .inr (show uE K (ul a) (ul b) H Q from⟨a,b,xs,ys,rfl,rfl,bF.of e1,bF.of e2,hx,by unfold bn;omega,λe=>?_,λ_ p hp=>h p _ (s.fN hp)⟩);subst e;refine h a H (Sep.rW ?_ s);rw[append_nil];exact e1
abbrev bJ (X:Addr->Rw->ai)(F:List ai)(v:V)(p:List Int×Rw):Prop:=∃ T P d,v=ul T/\tu T [ul P,ul d] ∈ F/\tu P (p.1.map ut) ∈ F/\X d p.2 ∈ F
def bJ.mono {X:Addr->Rw->ai}(up:∀ A ∈ F,A ∈ F'){p:List Int×Rw}:bJ X F v p->bJ X F' v p:=λ⟨T,P,d,e,h1,h2,h3⟩=>⟨T,P,d,e,up _ h1,up _ h2,up _ h3⟩
def aw.app {P:V->α->Prop}{vs':List V}{b b':List α}(h:aw P vs b)(h':aw P vs' b'):aw P (vs++vs') (b++b'):=by
 refine⟨by rw[ci,ci,h.1,h'.1],λj x y h1 h2=>?_⟩
 by_cases hj:j<vs.length
 .rw[getElem?_append_left hj]at h1;rw[getElem?_append_left (h.1▸hj)]at h2;exact h.2 j x y h1 h2
 .rw[getElem?_append_right nofun]at h1;rw[getElem?_append_right (by rw[<-h.1];omega),<-h.1]at h2;exact h'.2 _ x y h1 h2
def aw.cons {α:Type}{P:V->α->Prop}{v:V}{vs:List V}{i:α}{b:List α}(p:P v i)(h:aw P vs b):aw P (v::vs) (i::b):=aw.app (vs:=[v]) (b:=[i]) (aw.snoc (α:=α) aw.nil p) h
section
variable {X:Addr->Rw->ai}{F G:List ai}{hd l:Addr}{h:List Int}{vs:List V}{L:List (List Int×Rw)}
def mV (hh:tu hd (h.map ut) ∈ F)(h0:h≠[])(h2:h.length<=10)(hp:∀ p ∈ L,p.1.length<=300) (hl:vs.length<=100) (a:aw (bJ X F) vs L) (z:Sep (pt l (v6 vs)::(G++F)) H)
  (hte:∀ {v1 v2:V}{H:Hp}{Q:VK},wN R.K .Add (ul hd) v1 H (λx H1=>fN [x,v2] H1 Q)->te (some v1::some v2::rest) H Q)
  (q:∀ l' vs' Δ H',aw (bJ X (Δ++F)) vs' (pre h L)->Sep (pt l' (v6 vs')::pt l (v6 vs)::(G++(Δ++F))) H'->Q (ul l') H'):LCt R.K 2 te (xR R.K l) (none::none::rest) H Q:=by
 refine iH (xs:=vs) nofun (λD ys H=>∃ Δ,aw (bJ X (Δ++F)) ys ((pre h L).take ys.length)/\Sep (pt D (v6 ys)::pt l (v6 vs)::(G++(Δ++F))) H) (λD ys H ⟨Δ,_,z⟩=>aF.of (z.get .k1)) (λD hD=>⟨[],.nil,z.new (o:=v6 []) hD⟩) (λD ys x H hx hI=>?_) (λD ys H hl2 hI=>?_)
 .obtain⟨Δ,a1,z1⟩:=hI;obtain⟨p,hp1,T,P,d,rfl,m1,m2,m3⟩:=a.get hx;have hyl:=(ss.mp hx).1;have zg:Sep ((pt D (v6 ys)::pt l (v6 vs)::G)++(Δ++F)) H:=z1;refine⟨T,ul P,ul d,rfl,bF.of (fO (aa m1) zg),hte ?_⟩;refine AW (K:=R.K) z1 (fO (aa hh) zg) (fO (aa m2) zg) (λe=>h0 (List.map_eq_nil_iff.mp e)) (by rw[ce,ce];have:=hp p (cr hp1);omega) (λP' H2 z2=>?_);refine bq z2 (by show 2<=10000;omega) (λT' H3 z3=>?_);have z3:=z3.toT;have z4:Sep (pt D (v6 ys)::pt l (v6 vs)::(G++([tu T' [ul P',ul d],tu P' (h.map ut++p.1.map ut)]++(Δ++F)))) H3:=Sep.mv (P:=[_,_]) (Δ:=[tu T' _,tu P' _]) (L:=G) (O:=Δ++F) (z3.sub (.cons .k2 (.cons .k2 .refl)));refine lx.mk z4.at nofun ⟨[tu T' [ul P',ul d],tu P' (h.map ut++p.1.map ut)]++Δ,?_,?_⟩
  .have e:(pre h L)[ys.length]? =some (h++p.1,p.2):=by unfold pre;rw[io,hp1];rfl
   rw[ci,f8,take_succ,e,le];exact(a1.map λv i=>bJ.mono λA=>aa).snoc ⟨T',P',d,rfl,li,by rw[dL];exact dl _ li,aa (aa m3)⟩
  .rw[le];exact z4.set rfl
 .obtain⟨Δ,a1,z1⟩:=hI;rw[hl2,a.1,take_of_length_le (by rw[af];exact pi _)]at a1;exact q D ys Δ H a1 z1
def pQ (hk:1<=k)(hh:tu hd (h.map ut) ∈ F)(h0:h≠[])(h2:h.length<=10)(hp:∀ p ∈ L,p.1.length<=300) (hl:vs.length<=100) (a:aw (bJ X F) vs L) (z:Sep (pt l (v6 vs)::(G++F)) H)
  (q:∀ l' vs' Δ H',aw (bJ X (Δ++F)) vs' (pre h L)->Sep (pt l' (v6 vs')::pt l (v6 vs)::(G++(Δ++F))) H'->Q (ul l') H'):ae tab R k 39 [ul hd,ul l] H Q E:=by
 delta pO;right;exact mV hh h0 h2 hp hl a z (λh=>h) q
def mL (hk:1<=k)(hh:tu hd (h.map ut) ∈ F)(h0:h≠[])(h2:h.length<=10)(hp:∀ p ∈ L,p.1.length<=300) (hl:vs.length<=100) (a:aw (bJ X F) vs L) (z:Sep (pt l (v6 vs)::(G++F)) H)
  (q:∀ l' vs' Δ H',aw (bJ X (Δ++F)) vs' (pre h L)->Sep (pt l' (v6 vs')::pt l (v6 vs)::(G++(Δ++F))) H'->Q (ul l') H'):ae tab R k 68 [ul hd,ul l] H Q E:=by
 delta fH;right;exact mV hh h0 h2 hp hl a z (λh=>h) q
end
def vp {Ls:List (List (List Int×Rw))}:pre h Ls.flatten=(Ls.map (pre h)).flatten:=by
 unfold pre;rw[List.map_flatten]
def yI {b:Addr}{zs:List V}(s:Sep O H)(r:bH (pt a (v6 xs)) (pt a (v6 (xs++zs))) O Γ')(e:H b=some (v6 zs))(hl:xs.length+zs.length<=10000)(h:∀ H',Sep Γ' H'->Q v4 H'):vU .extend a xs [ul b] H Q:=by unfold vU;exact⟨_,_,rfl,e,hl,h _ (s.put r rfl)⟩
section
variable {B dx d1 d2:Addr}{kb:List (Key×V)}{cs:List (Str×Int)}{Nl:List (Str×List Itm)}{nb:Str->List Itm}{F G:List ai}{f:Nat}
def nh {l:V}(hk:1<=k)(hv:a8 kb (.inr w)=some l)(z:Sep (aM R B dx d1 d2 kb cs O) H)(q:Q l H):ae tab R k 36 [ul B,v0 w] H Q E:=by
 delta bK;right;exact zW (k:=.inr w) (z.get .k1) hv q
abbrev Bm (K:W.Frag)(R:Rt)(B dx d1 d2:Addr)(kb:List (Key×V))(cs:List (Str×Int))(Nl:List (Str×List Itm))(nb:Str->List Itm)(f:Nat):Prop:=∀ {k:Nat}{F G:List ai}{v:V}{b:List Itm}{n i:Nat}{H:Hp}{Q:VK}{E:XK},3*f+9<=k->n+4*i<=f->cP ((Nl.take i).map (·.1)) n b->k8 R F n v b->mW R F kb Nl->(aC nb f b).length<=24->Sep (aM R B dx d1 d2 kb cs (G++F)) H->(∀ l vs Δ H',aw (bJ (bS R) (Δ++F)) vs (aC nb f b)->Sep (pt l (v6 vs)::aM R B dx d1 d2 kb cs (G++(Δ++F))) H'->Q (ul l) H')->ae tab R k 44 [ul B,v] H Q E
abbrev Fi (K:W.Frag)(R:Rt)(B dx d1 d2:Addr)(kb:List (Key×V))(cs:List (Str×Int))(Nl:List (Str×List Itm))(nb:Str->List Itm)(f:Nat):Prop:=∀ {k:Nat}{F G:List ai}{v:V}{it:Itm}{j:Int}{n i:Nat}{H:Hp}{Q:VK}{E:XK},3*f+8<=k->n+4*i<=f->jJ ((Nl.take i).map (·.1)) n it->gZ R F n v it->mW R F kb Nl->(ba nb f it).length<=24->Sep (aM R B dx d1 d2 kb cs (G++F)) H->(∀ l vs Δ H',aw (bJ (bS R) (Δ++F)) vs (pre [j] (ba nb f it))->Sep (pt l (v6 vs)::aM R B dx d1 d2 kb cs (G++(Δ++F))) H'->Q (ul l) H')->ae tab R k 43 [ul B,ut j,v] H Q E
def mW.mono (up:∀ A ∈ F,A ∈ F') (h:mW R F kb Nl):mW R F' kb Nl:=λw b hm=>let⟨l,e,i⟩:=h w b hm;⟨l,e,k8.mono up i⟩
def gE (ee:es=h.map ut)(h2:h.length<=10)(z:Sep (aM R B dx d1 d2 kb cs (G++F)) H)(q:∀ hd H1,Sep (aM R B dx d1 d2 kb cs (G++([tu hd (h.map ut)]++F))) H1->Q (ul hd) H1):fN es H Q:=by
 subst ee;refine bq z (by rw[ce];omega) (λhd H1 z1=>?_);exact q hd H1 (Sep.mv (P:=[]) (Δ:=[tu hd (h.map ut)]) (L:=[_,_,_]++G) (O:=F) z1.toT)
def nS {hd:Addr}{n i:Nat}(ihb:Bm K R B dx d1 d2 kb cs Nl nb f)(hf40:f<=40)(hk:3*f+9<=k)(hf:n+4*i<=f)(ok:cP ((Nl.take i).map (·.1)) n b)(im:k8 R F n v b)(bk:mW R F kb Nl)(hl24:(aC nb f b).length<=24)(h0:h≠[])(h2:h.length<=10)(z:Sep (aM R B dx d1 d2 kb cs (G++([tu hd (h.map ut)]++F))) H)
  (q:∀ l vs Δ H',aw (bJ (bS R) (Δ++F)) vs (pre h (aC nb f b))->Sep (pt l (v6 vs)::aM R B dx d1 d2 kb cs (G++(Δ++F))) H'->Q (ul l) H'):ae tab R k 44 [ul B,v] H (λx H2=>ae tab R k 39 [ul hd,x] H2 Q E) E:=by
 refine ihb (F:=[tu hd (h.map ut)]++F) hk hf ok (k8.mono (λA=>aa) im) (bk.mono λA=>aa) hl24 z (λl vs Δ H2 a z3=>?_);have hpl:∀ p ∈ aC nb f b,p.1.length<=300:=λp hp=>by have:=cW (K:=2*f+1) (λi _=>gT) p hp;omega
 refine pQ (G:=[_,_,_]++G) (F:=Δ++([tu hd (h.map ut)]++F)) (L:=aC nb f b) nofun (aa li) h0 h2 hpl (by rw[a.1];omega) a z3 (λl' vs' Δ' H3 a' z4=>?_);have e:Δ'++(Δ++([tu hd (h.map ut)]++F))=(Δ'++(Δ++[tu hd (h.map ut)]))++F:=by simp only[le]
 have z5:Sep (pt l' (v6 vs')::aM R B dx d1 d2 kb cs (G++(Δ'++(Δ++([tu hd (h.map ut)]++F))))) H3:=(z4.pull .k1).drop;rw[e]at a';rw[e]at z5;exact q l' vs' _ H3 a' z5
def kW {o:HO}{A:List ai}(m:pt d o ∈ F)(z:Sep (A++aM R B dx d1 d2 kb cs (G++F)) H):H d=some o:=by
 refine fz (G:=A++[pt B (wn (R.cad 14) dx [("blocks",ul d1),("counts",ul d2)]),pt d1 (.dK kb),pt d2 (.dK (bA cs))]++G) m ?_;simpa only [le,cons_append,nil_append] using z
variable {j:Int}
def t7 {x:Addr}{n i:Nat}(hN:oM Nl nb (aJ cs))(hcs:∀ w ∈ Nl.map (·.1),w ∈ cs.map (·.1)) (ihb:Bm K R B dx d1 d2 kb cs Nl nb f) (hf40:f<=40) (hk:3*f+10<=k) (hf:n+4*i<=f+1) (hw:w ∈ (Nl.take i).map (·.1)) (m:pt d (wn (R.cad 11) x [("called",v0 w)]) ∈ F) (bk:mW R F kb Nl) (hl24:(aC nb f (nb w)).length<=24) (z:Sep (aM R B dx d1 d2 kb cs (G++F)) H)
  (q:∀ l vs Δ H',aw (bJ (bS R) (Δ++F)) vs (pre [j] (aC nb f (nb w)))->Sep (pt l (v6 vs)::aM R B dx d1 d2 kb cs (G++(Δ++F))) H'->Q (ul l) H'):ae tab R k 40 [ul B,ut j,ul d] H Q E:=by
 obtain⟨s,hs,oks,cw,hat⟩:=hN.mem hw;have hwN:w ∈ Nl.map (·.1):=List.mem_map.mpr ⟨_,cr hat,rfl⟩;have hlen:((aC nb f (nb w)).length:Int)=aJ cs w:=by rw[cw];exact dv hN (n:=2) (i:=s) nofun oks
 have e:=kW (A:=[]) m z;delta jv;left;refine⟨rfl,?_⟩;left;refine⟨_,14,_,_,_,rfl,z.at,rfl,rfl,?_⟩;left;refine aA e rfl rfl rfl ?_;left;refine hG nofun (hcs w hwN) z ?_;right;refine cL (λg=>?_) (λg=>?_)
 .left;refine ay z (by decide) (λl H1 z1=>?_);have e0:aC nb f (nb w)=[]:=length_eq_zero_iff.mp nofun;refine q l [] [] H1 ?_ z1;rw[e0];exact .nil
 .left;refine⟨rfl,?_⟩;left;refine gE (h:=[j]) rfl (by show 1<=10;omega) z (λhd H1 z1=>?_);left;refine⟨rfl,?_⟩;left;refine⟨rfl,?_⟩;left;refine⟨_,14,_,_,_,rfl,z1.at,rfl,rfl,?_⟩;left;refine aA (kW (A:=[]) (F:=[tu hd ([j].map ut)]++F) (aa m) z1) rfl rfl rfl ?_;left;obtain⟨l,el,im⟩:=bk w (nb w) (cr hat);refine nh nofun el z1 ?_;left;exact nS (K:=K) (n:=2) (i:=s) ihb hf40 nofun nofun oks im bk hl24 (cons_ne_nil _ _) (by show 1<=10;omega) z1 q
def my {x:Addr}{mm:Int}{n i:Nat}(ihb:Bm K R B dx d1 d2 kb cs Nl nb f)(hf40:f<=40)(hk:3*f+10<=k)(hf:n+4*i<=f)(h0:0<=mm)(h9:mm<=9)(ok:cP ((Nl.take i).map (·.1)) n b)(m:pt d (wn (R.cad 12) x [("many",ut mm),("block",ul l)]) ∈ F) (im:k8 R F n (ul l) b) (bk:mW R F kb Nl) (hl24:((List.range mm.toNat).map λt:Nat=>pre [(t:Int)] (aC nb f b)).flatten.length<=24) (z:Sep (aM R B dx d1 d2 kb cs (G++F)) H)
  (q:∀ l vs Δ H',aw (bJ (bS R) (Δ++F)) vs (pre [j] ((List.range mm.toNat).map λt:Nat=>pre [(t:Int)] (aC nb f b)).flatten)->Sep (pt l (v6 vs)::aM R B dx d1 d2 kb cs (G++(Δ++F))) H'->Q (ul l) H'):ae tab R k 41 [ul B,ut j,ul d] H Q E:=by
 have e:=kW (A:=[]) m z;delta fu;left;refine aA e rfl rfl rfl ?_;left;refine bz rfl rfl ?_;left;refine cL (λg=>?_) (λg=>?_)
 .left;refine ay z (by decide) (λl H1 z1=>?_);refine q l [] [] H1 ?_ z1;rw[g];exact .nil
 have hfb:(aC nb f b).length<=24:=by
  have e1:(List.range mm.toNat)=0::(List.range (mm.toNat-1)).map (·+1):=by
   rw[show mm.toNat=(mm.toNat-1)+1 by omega,List.range_succ_eq_map];rfl
  rw[e1,map_cons,flatten_cons,ci,af]at hl24
  omega
 have hpl:∀ p ∈ aC nb f b,p.1.length<=300:=λp hp=>by have:=cW (K:=2*f+1) (λi _=>gT) p hp;omega
 left;refine⟨rfl,?_⟩;left;refine aA e rfl rfl rfl ?_;left;refine ihb (k:=k-1) nofun hf ok im bk hfb z (λol vs Δ H1 a z1=>?_);left;refine ay z1 (by decide) (λpl H2 z2=>?_);left;refine⟨rfl,?_⟩;left;refine aA (kW (A:=[_,_]) (F:=Δ++F) (aa m) z2) rfl rfl rfl ?_;left;refine⟨by omega,by omega,?_⟩;have hvl:vs.length<=24:=by rw[a.1];exact hfb
 refine fh (λt U H=>∃ u5,U=[some (ul B),some (ut j),some (ul d),some (ul ol),some (ul pl),u5]/\∃ vs' Δ',vs'.length<=t*24/\aw (bJ (bS R) (Δ'++(Δ++F))) vs' (((List.range t).map λs:Nat=>pre [j,(s:Int)] (aC nb f b)).flatten)/\Sep (pt pl (v6 vs')::pt ol (v6 vs)::aM R B dx d1 d2 kb cs (G++(Δ'++(Δ++F)))) H) ⟨_,rfl,[],[],by decide,.nil,z2⟩ (λt U H ht hI=>?_) (λU H hI=>?_)
 .obtain⟨u5,rfl,vs',Δ',hl',a',z3⟩:=hI;left;refine⟨pl,vs',rfl,z3.at,?_⟩;left;refine⟨rfl,?_⟩;left;have z3':Sep (aM R B dx d1 d2 kb cs (([pt pl (v6 vs'),pt ol (v6 vs)]++G)++(Δ'++(Δ++F)))) H:=z3.sub (.cons .k2 (.cons .k2 (.cons .k2 .refl)));refine gE (h:=[j,0+(t:Int)]) rfl (by show 2<=10;omega) z3' (λhd H3 z4=>?_);left;have z5:Sep (pt ol (v6 vs)::(([pt B (wn (R.cad 14) dx [("blocks",ul d1),("counts",ul d2)]),pt d1 (.dK kb),pt d2 (.dK (bA cs)),pt pl (v6 vs')]++G)++([tu hd ([j,0+(t:Int)].map ut)]++(Δ'++(Δ++F))))) H3:=z4.pull (.j2 (.j2 .e));refine pQ (k:=k-1) (F:=[tu hd ([j,0+(t:Int)].map ut)]++(Δ'++(Δ++F))) (L:=aC nb f b) nofun li (cons_ne_nil _ _) (by show 2<=10;omega) hpl nofun (a.map λv i=>bJ.mono λA h=>aa (aa h)) z5 (λl' ws Δ2 H4 a2 z6=>?_);have e0:pre [j,0+(t:Int)] (aC nb f b)=pre [j,(t:Int)] (aC nb f b):=by rw[Int.zero_add]
  rw[e0]at a2;have hwl:ws.length<=24:=by rw[a2.1,af];exact hfb
  have z7:Sep (pt pl (v6 vs')::pt l' (v6 ws)::pt ol (v6 vs)::aM R B dx d1 d2 kb cs (G++(Δ2++([tu hd ([j,0+(t:Int)].map ut)]++(Δ'++(Δ++F)))))) H4:=z6.pull (.j2 (.j2 .k1));left;refine⟨vs',z7.at,yI z7 .e (z7.get .k1) nofun (λH5 z8=>?_)⟩;left;have eA:Δ2++([tu hd ([j,0+(t:Int)].map ut)]++(Δ'++(Δ++F)))=(Δ2++([tu hd ([j,0+(t:Int)].map ut)]++Δ'))++(Δ++F):=by simp only[le]
  refine⟨_,rfl,vs'++ws,Δ2++([tu hd ([j,0+(t:Int)].map ut)]++Δ'),by rw[ci];omega,?_,?_⟩
  .rw[range_succ,dL,flatten_append,<-eA];refine aw.app (a'.map λv i=>bJ.mono λA h=>aa (aa h)) ?_;show aw _ ws (pre [j,(t:Int)] (aC nb f b)++[]);rw[append_nil];exact a2
  .rw[<-eA];exact(z8.pull .k1).drop
 .obtain⟨u5,rfl,vs',Δ',hl',a',z3⟩:=hI;left;have eA:Δ'++(Δ++F)=(Δ'++Δ)++F:=by simp only[le]
  refine q pl vs' (Δ'++Δ) _ ?_ ?_
  .rw[vp,List.map_map,<-eA];have e3:((pre [j])∘λt:Nat=>pre [(t:Int)] (aC nb f b))=λs:Nat=>pre [j,(s:Int)] (aC nb f b):=funext λs=>g5
   rw[e3];exact a'
  .rw[<-eA];exact(z3.pull .k1).drop
def nO {x P:Addr}{p:List Int}{nn:Int}(hx:bS R x (.hop nn o) ∈ F)(hP:tu P (p.map ut) ∈ F)(z:Sep (G++F) H)(q:∀ T H',bJ (bS R) ([tu T [ul P,ul x]]++F) (ul T) (p,.hop nn o)->Sep (G++([tu T [ul P,ul x]]++F)) H'->Q (ul T) H'):fN [ul P,ul x] H Q:=by
 refine bq z (by show 2<=10000;omega) (λT H1 z1=>?_);exact q T H1 ⟨T,P,x,rfl,li,aa hP,aa hx⟩ (toF (L:=[_]) z1.toT)
def oy {x l':Addr}{c:List Itm}{o:Int}{n i:Nat}{vs2:List V}(ro:Ro K R)(ihb:Bm K R B dx d1 d2 kb cs Nl nb f)(hf40:f<=40)(hk:3*f+10<=k)(hf:n+4*i<=f)(ho:o=0\/o=1)(ok:cP ((Nl.take i).map (·.1)) n b)(ok2:cP ((Nl.take i).map (·.1)) n c)(m:pt d (wn (R.cad 13) x [("on",ut o),("block",ul l),("other",ul l')]) ∈ F) (im:k8 R F n (ul l) b) (hl':pt l' (v6 vs2) ∈ F) (im2:aw (gZ R F n) vs2 c) (bk:mW R F kb Nl) (hl24:(mY o (pre [0] (aC nb f b)) (pre [1] (aC nb f c)) (c.length ==0)).length<=24) (z:Sep (aM R B dx d1 d2 kb cs (G++F)) H)
  (q:∀ l vs Δ H',aw (bJ (bS R) (Δ++F)) vs (pre [j] (mY o (pre [0] (aC nb f b)) (pre [1] (aC nb f c)) (c.length ==0)))->Sep (pt l (v6 vs)::aM R B dx d1 d2 kb cs (G++(Δ++F))) H'->Q (ul l) H'):ae tab R k 42 [ul B,ut j,ul d] H Q E:=by
 have e:=kW (A:=[]) m z;have oO:B7 (some (1-o)):=by
  rcases ho with rfl|rfl
  .exact .inr rfl
  .exact .inl rfl
 have hb24:(aC nb f b).length+1<=24:=by
  unfold mY at hl24
  split at hl24
  .rw[length_cons,af]at hl24;omega
  .rw[length_cons,ci,af]at hl24;omega
 delta gB;left;refine⟨rfl,?_⟩;left;refine gE (h:=[j,0]) rfl (by show 2<=10;omega) z (λhd H1 z1=>?_);left;refine⟨rfl,?_⟩;left;refine aA (kW (A:=[]) (F:=[tu hd ([j,0].map ut)]++F) (aa m) z1) rfl rfl rfl ?_;left;refine nS (K:=K) (k:=k-1) (h:=[j,0]) ihb hf40 nofun hf ok im bk nofun (cons_ne_nil _ _) (by show 2<=10;omega) z1 (λbl vs Δ H2 a z2=>?_);have hvl:vs.length<=24:=by rw[a.1,af];omega
 have hvn:(vs.length:Int)=((aC nb f b).length:Int):=by rw[a.1,af]
 left;refine aA (kW (A:=[_]) (F:=Δ++F) (aa m) z2) rfl rfl rfl ?_;left;refine bG (kW (A:=[_]) (F:=Δ++F) (aa hl') z2) ?_;left;refine bz rfl rfl ?_;left;refine cL (λg=>?_) (λg=>?_)
 .have hc:c=[]:=length_eq_zero_iff.mp (by rw[<-im2.1];omega);subst hc;have z2':Sep (aM R B dx d1 d2 kb cs (([pt bl (v6 vs)]++G)++(Δ++F))) H2:=z2.sub (.cons .k1 (.cons .k1 (.cons .k1 .refl)));left;refine gE (h:=[j]) rfl (by show 1<=10;omega) z2' (λP H3 z3=>?_);left;refine⟨rfl,?_⟩;left;refine bG (z3.get (.j2 .k1)) ?_;left;refine aA (kW (A:=[]) (F:=[tu P ([j].map ut)]++(Δ++F)) (aa (aa m)) z3) rfl rfl rfl ?_;left;intro hx hy a1 a2 a3;refine pC (n:=(vs.length:Int)) (o:=some (1-o)) ro nofun nofun nofun oO (ef z3 a1 a2 a3) (λH4 z4=>⟨rfl,?_⟩);left;have z5:Sep (([pt B (wn (R.cad 14) dx [("blocks",ul d1),("counts",ul d2)]),pt d1 (.dK kb),pt d2 (.dK (bA cs)),pt bl (v6 vs)]++G)++([bS R hx (.hop (vs.length:Int) (some (1-o)))]++([tu P ([j].map ut)]++(Δ++F)))) H4:=toF (L:=[bS R hx (.hop (vs.length:Int) (some (1-o)))]) z4;refine nO (p:=[j]) li (dl _ li) z5 (λT H5 pr z6=>?_);left;refine ay z6 (by show 1<=10000;omega) (λl1 H6 z7=>?_);have z7':Sep (pt l1 (v6 [ul T])::aM R B dx d1 d2 kb cs (pt bl (v6 vs)::(G++([tu T [ul P,ul hx]]++([bS R hx (.hop (vs.length:Int) (some (1-o)))]++([tu P ([j].map ut)]++(Δ++F))))))) H6:=z7;left;refine cB z7' z7'.at (z7'.get (.j2 (.j2 .e))) (by show 1+vs.length<=100000;omega) (λl2 H7 z8=>?_);have eA:[tu T [ul P,ul hx]]++([bS R hx (.hop (vs.length:Int) (some (1-o)))]++([tu P ([j].map ut)]++(Δ++F)))=([tu T [ul P,ul hx]]++([bS R hx (.hop (vs.length:Int) (some (1-o)))]++([tu P ([j].map ut)]++Δ)))++F:=by simp only[le]
  refine q l2 ([ul T]++vs) _ H7 ?_ (by rw[<-eA];exact((((z8.pull .k1).drop).pull (.j2 (.j2 .e))).drop));rw[<-eA];show aw _ (ul T::vs) (([j]++[],Rw.hop ((pre [0] (aC nb f b)).length:Int) (some (1-o)))::pre [j] (pre [0] (aC nb f b)));rw[g5,af,<-hvn];exact aw.cons pr (a.map λv i=>bJ.mono λA h=>aa (aa (aa h)))
 .have hcn:(c.length ==0)=false:=beq_eq_false_iff_ne.mpr (by rw[<-im2.1];omega);rw[hcn]at hl24 q;have hsum:(aC nb f b).length+(aC nb f c).length+2<=24:=by
   unfold mY at hl24;rw[length_cons,ci,length_cons,af,af]at hl24
   omega
  have z2':Sep (aM R B dx d1 d2 kb cs (([pt bl (v6 vs)]++G)++(Δ++F))) H2:=z2.sub (.cons .k1 (.cons .k1 (.cons .k1 .refl)));left;refine⟨rfl,?_⟩;left;refine gE (h:=[j,1]) rfl (by show 2<=10;omega) z2' (λhd2 H3 z3=>?_);left;refine⟨rfl,?_⟩;left;refine aA (kW (A:=[]) (F:=[tu hd2 ([j,1].map ut)]++(Δ++F)) (aa (aa m)) z3) rfl rfl rfl ?_;left;refine nS (K:=K) (k:=k-1) (h:=[j,1]) ihb hf40 nofun hf ok2 ⟨l',vs2,rfl,aa hl',im2.map λv i=>gZ.mono λA=>aa⟩ (bk.mono λA=>aa) nofun (cons_ne_nil _ _) (by show 2<=10;omega) z3 (λol ws Δ2 H4 a2 z4=>?_);have hwl:ws.length<=24:=by rw[a2.1,af];omega
  have hwn:(ws.length:Int)=((aC nb f c).length:Int):=by rw[a2.1,af]
  have z4':Sep (aM R B dx d1 d2 kb cs (([pt ol (v6 ws),pt bl (v6 vs)]++G)++(Δ2++(Δ++F)))) H4:=z4.sub (.cons .k1 (.cons .k1 (.cons .k1 .refl)));left;refine gE (h:=[j]) rfl (by show 1<=10;omega) z4' (λP H5 z5=>?_);left;refine⟨rfl,?_⟩;left;refine bG (z5.get (.j2 (.j2 .e))) ?_;left;refine aA (kW (A:=[]) (F:=[tu P ([j].map ut)]++(Δ2++(Δ++F))) (aa (aa (aa m))) z5) rfl rfl rfl ?_;left;intro hx hy a1 a3 a4;refine pC (n:=(vs.length:Int)+1) (o:=some (1-o)) ro nofun nofun nofun oO (ef z5 a1 a3 a4) (λH6 z6=>⟨rfl,?_⟩);left;have z7:Sep (([pt B (wn (R.cad 14) dx [("blocks",ul d1),("counts",ul d2)]),pt d1 (.dK kb),pt d2 (.dK (bA cs)),pt ol (v6 ws),pt bl (v6 vs)]++G)++([bS R hx (.hop ((vs.length:Int)+1) (some (1-o)))]++([tu P ([j].map ut)]++(Δ2++(Δ++F))))) H6:=toF (L:=[bS R hx (.hop ((vs.length:Int)+1) (some (1-o)))]) z6;refine nO (p:=[j]) li (dl _ li) z7 (λT H7 pr z8=>?_);left;have z8':Sep (aM R B dx d1 d2 kb cs (([pt ol (v6 ws),pt bl (v6 vs)]++G)++([tu T [ul P,ul hx]]++([bS R hx (.hop ((vs.length:Int)+1) (some (1-o)))]++([tu P ([j].map ut)]++(Δ2++(Δ++F))))))) H7:=z8;refine gE (h:=[j,2]) rfl (by show 2<=10;omega) z8' (λP2 H8 z9=>?_);left;refine⟨rfl,?_⟩;left;refine bG (z9.get (.j2 .k1)) ?_;left;intro hx2 hy2 b1 b3 b4;refine pC (n:=(ws.length:Int)) (o:=none) ro nofun nofun nofun True.intro (ef z9 b1 b3 b4) (λH9 z10=>⟨rfl,?_⟩);left;have z11:Sep (([pt B (wn (R.cad 14) dx [("blocks",ul d1),("counts",ul d2)]),pt d1 (.dK kb),pt d2 (.dK (bA cs)),pt ol (v6 ws),pt bl (v6 vs)]++G)++([bS R hx2 (.hop (ws.length:Int) none)]++([tu P2 ([j,2].map ut)]++([tu T [ul P,ul hx]]++([bS R hx (.hop ((vs.length:Int)+1) (some (1-o)))]++([tu P ([j].map ut)]++(Δ2++(Δ++F)))))))) H9:=toF (L:=[bS R hx2 (.hop (ws.length:Int) none)]) z10;refine nO (p:=[j,2]) li (dl _ li) z11 (λT2 H10 pr2 z12=>?_);obtain⟨ΔA,eA⟩:∃ ΔA,[tu T2 [ul P2,ul hx2]]++([bS R hx2 (.hop (ws.length:Int) none)]++([tu P2 ([j,2].map ut)]++([tu T [ul P,ul hx]]++([bS R hx (.hop ((vs.length:Int)+1) (some (1-o)))]++([tu P ([j].map ut)]++(Δ2++(Δ++F)))))))=ΔA++F:=⟨[tu T2 [ul P2,ul hx2]]++([bS R hx2 (.hop (ws.length:Int) none)]++([tu P2 ([j,2].map ut)]++([tu T [ul P,ul hx]]++([bS R hx (.hop ((vs.length:Int)+1) (some (1-o)))]++([tu P ([j].map ut)]++(Δ2++Δ)))))),by simp only[le]⟩;have pr1:bJ (bS R) (ΔA++F) (ul T) ([j],.hop ((vs.length:Int)+1) (some (1-o))):=by rw[<-eA];exact bJ.mono (λA h=>aa (aa (aa h))) pr
  have pr2:bJ (bS R) (ΔA++F) (ul T2) ([j,2],.hop (ws.length:Int) none):=by rw[<-eA];exact pr2
  have a':aw (bJ (bS R) (ΔA++F)) vs (pre [j,0] (aC nb f b)):=by rw[<-eA];exact a.map λv i=>bJ.mono λA h=>aa (aa (aa (aa (aa (aa (aa h))))))
  have a2':aw (bJ (bS R) (ΔA++F)) ws (pre [j,1] (aC nb f c)):=by rw[<-eA];exact a2.map λv i=>bJ.mono λA h=>aa (aa (aa (aa (aa (aa h)))))
  have z13:Sep (pt ol (v6 ws)::pt bl (v6 vs)::aM R B dx d1 d2 kb cs (G++(ΔA++F))) H10:=by
   rw[<-eA];have z14:Sep (aM R B dx d1 d2 kb cs (pt ol (v6 ws)::pt bl (v6 vs)::(G++([tu T2 [ul P2,ul hx2]]++([bS R hx2 (.hop (ws.length:Int) none)]++([tu P2 ([j,2].map ut)]++([tu T [ul P,ul hx]]++([bS R hx (.hop ((vs.length:Int)+1) (some (1-o)))]++([tu P ([j].map ut)]++(Δ2++(Δ++F)))))))))) ) H10:=z12;exact z14.sub (.cons .k3 (.cons .k3 .refl))
  clear z z1 z2 z2' z3 z4 z4' z5 z6 z7 z8 z8' z9 z10 z11 z12;left;refine ay z13 (by show 1<=10000;omega) (λl1 H11 z14=>?_);left;refine cB z14 z14.at (z14.get .k2) (by show 1+vs.length<=100000;omega) (λl2 H12 z15=>?_);left;refine ay z15 (by show 1<=10000;omega) (λl3 H13 z16=>?_);left;refine cB z16 (z16.get .k1) z16.at (by rw[ci];show 1+vs.length+1<=100000;omega) (λl4 H14 z17=>?_);left;refine cB z17 z17.at (z17.get (.j2 (.j2 .e))) (by rw[ci,ci];show 1+vs.length+1+ws.length<=100000;omega) (λl5 H15 z18=>?_);refine q l5 _ ΔA H15 ?_ (z18.sub (.cons .e (.drop (.drop (.drop (.drop (.drop (.drop .refl))))))));show aw _ (([ul T]++vs)++[ul T2]++ws) (pre [j] (([],Rw.hop (((pre [0] (aC nb f b)).length:Int)+1) (some (1-o)))::(pre [0] (aC nb f b)++([2],Rw.hop ((pre [1] (aC nb f c)).length:Int) none)::pre [1] (aC nb f c))));have eL:pre [j] (([],Rw.hop (((pre [0] (aC nb f b)).length:Int)+1) (some (1-o)))::(pre [0] (aC nb f b)++([2],Rw.hop ((pre [1] (aC nb f c)).length:Int) none)::pre [1] (aC nb f c)))=(([([j],Rw.hop ((vs.length:Int)+1) (some (1-o)))]++pre [j,0] (aC nb f b))++[([j,2],Rw.hop (ws.length:Int) none)])++pre [j,1] (aC nb f c):=by
   rw[af,af,<-hvn,<-hwn];show _::pre [j] (pre [0] (aC nb f b)++_::pre [1] (aC nb f c))=_;rw[pre_app];show _::(pre [j] (pre [0] (aC nb f b))++_::pre [j] (pre [1] (aC nb f c)))=_;rw[g5,g5];simp
  rw[eL];exact((((aw.snoc (α:=List Int×Rw) aw.nil pr1).app a').snoc pr2).app a2')
def iS (ro:Ro K R)(hN:oM Nl nb (aJ cs))(hcs:∀ w ∈ Nl.map (·.1),w ∈ cs.map (·.1)) (hf40:f<=40) (ih:∀ g,f=g+1->Bm K R B dx d1 d2 kb cs Nl nb g):Fi K R B dx d1 d2 kb cs Nl nb f:=by
 intro k F G v it j n i H Q E hk hf ok im bk hl24 z q;delta gh;cases it with
 |row r=>
  obtain⟨d,rfl,m⟩:∃ d,v=ul d/\bS R d r ∈ F:=by cases n<;>exact im
  obtain⟨y,fs,e⟩:=DX (G:=[pt B (wn (R.cad 14) dx [("blocks",ul d1),("counts",ul d2)]),pt d1 (.dK kb),pt d2 (.dK (bA cs))]++G) m z;obtain⟨o1,o2,o3,o4⟩:=oj r;left;refine aK e o1 o2 ?_;right;refine aK e o1 o3 ?_;right;refine aK e o1 o4 ?_;left;refine ao rfl ?_;left;refine gE (h:=[j]) rfl (by show 1<=10;omega) z (λP H1 z1=>?_);left;refine bq z1 (by show 2<=10000;omega) (λT H2 z2=>?_);left;refine ay z2.toT (by show 1<=10000;omega) (λl H3 z3=>?_);have z4:Sep (pt l (v6 [ul T])::aM R B dx d1 d2 kb cs (G++([tu T [ul P,ul d]]++([tu P ([j].map ut)]++F)))) H3:=Sep.mv (P:=[_]) (Δ:=[tu T [ul P,ul d]]) (L:=[_,_,_]++G) (O:=[tu P ([j].map ut)]++F) z3;refine q l [ul T] ([tu T [ul P,ul d]]++[tu P ([j].map ut)]) H3 ?_ z4;have e1:ba nb f (.row r)=[([],r)]:=by cases f<;>rfl
  rw[e1];exact aw.snoc (α:=List Int×Rw) aw.nil ⟨T,P,d,rfl,li,dl _ li,aa m⟩
 |dO w=>
  obtain⟨d,y,rfl,m⟩:∃ d dx,v=ul d/\pt d (wn (R.cad 11) dx [("called",v0 w)]) ∈ F:=by cases n<;>exact im
  have ok':w ∈ (Nl.take i).map (·.1):=by cases n<;>exact ok
  obtain⟨s,hs,_⟩:=hN.mem ok';obtain⟨g,rfl⟩:∃ g,f=g+1:=⟨f-1,by omega⟩;left;refine aK (kW (A:=[]) m z) rfl rfl ?_;left;refine aQ rfl ?_;left;refine⟨rfl,?_⟩;left;exact t7 (K:=K) (k:=k-1) hN hcs (ih g rfl) nofun nofun hf ok' m bk hl24 z q
 |tms t b=>
  cases n with
  |zero=>exact im.elim
  |succ n=>
   obtain⟨d,y,l,vs,rfl,m1,m2,a⟩:=im;obtain⟨g,rfl⟩:∃ g,f=g+1:=⟨f-1,by omega⟩;left;refine aK (kW (A:=[]) m1 z) rfl rfl ?_;right;refine aK (kW (A:=[]) m1 z) rfl rfl ?_;left;refine aQ rfl ?_;left;refine⟨rfl,?_⟩;left;exact my (K:=K) (k:=k-1) (ih g rfl) nofun nofun nofun ok.1.1 ok.1.2 ok.2 m1 ⟨l,vs,rfl,m2,a⟩ bk hl24 z q
 |whn o b c=>
  cases n with
  |zero=>exact im.elim
  |succ n=>
   obtain⟨d,y,l,vs,l',vs',rfl,m1,⟨m2,a⟩,m3,a'⟩:=im;obtain⟨g,rfl⟩:∃ g,f=g+1:=⟨f-1,by omega⟩;left;refine aK (kW (A:=[]) m1 z) rfl rfl ?_;right;refine aK (kW (A:=[]) m1 z) rfl rfl ?_;right;refine aK (kW (A:=[]) m1 z) rfl rfl ?_;left;refine aQ rfl ?_;left;refine⟨rfl,?_⟩;left;exact oy (K:=K) (k:=k-1) ro (ih g rfl) nofun nofun nofun ok.1 ok.2.1 ok.2.2 m1 ⟨l,vs,rfl,m2,a⟩ m3 a' bk hl24 z q
def ir {g:Itm->List (List Int×Rw)}:∀ {b:List Itm}{j s:Nat},(a7 g s (b.take j)).length<=(a7 g s b).length
 | [],j,s=>by rw[List.take_nil];exact pi _
 |x::b,0,s=>Nat.zero_le _
 |x::b,j+1,s=>by
  show(pre _ (g x)++a7 g (s+1) (b.take j)).length<=(pre _ (g x)++a7 g (s+1) b).length;rw[ci,ci];have:=ir (g:=g) (b:=b) (j:=j) (s:=s+1)
  omega
def pv (hi:Fi K R B dx d1 d2 kb cs Nl nb f):Bm K R B dx d1 d2 kb cs Nl nb f:=by
 intro k F G v b n i H Q E hk hf ok im bk hl24 z q;obtain⟨l,vs,rfl,m,a⟩:=im;have hl:vs.length<=30:=by rw[a.1];exact ok.1
 delta vq;left;refine ay z (by decide) (λpl H1 z1=>?_);left;refine⟨rfl,?_⟩;left;refine Bh (kW (A:=[_]) m z1) ?_;refine pL (xs:=vs) (λj U H=>∃ u3 u4,U=[some (ul B),some (ul l),some (ul pl),u3,u4]/\∃ vs' Δ,aw (bJ (bS R) (Δ++F)) vs' (a7 (ba nb f) 0 (b.take j))/\Sep (pt pl (v6 vs')::aM R B dx d1 d2 kb cs (G++(Δ++F))) H) ⟨_,_,rfl,[],[],.nil,z1⟩ ?_ ?_ ?_
 .rintro j U H ⟨u3,u4,rfl,vs',Δ,_,z⟩;exact kW (A:=[_]) (F:=Δ++F) (aa m) z
 .rintro j x T U H hx ⟨u3,u4,rfl,vs',Δ,a1,z2⟩ hT;obtain⟨it,hb,hi2⟩:=a.get hx;have hj:j<b.length:=(ss.mp hb).1;have e1:b.take (j+1)=b.take j++[it]:=by rw[take_succ,hb];rfl
  have e2:a7 (ba nb f) 0 (b.take (j+1))=a7 (ba nb f) 0 (b.take j)++pre [(j:Int)] (ba nb f it):=by
   rw[e1,kN,db];rw[show 0+min j b.length=j by omega]
  have h24:(a7 (ba nb f) 0 (b.take (j+1))).length<=24:=Nat.le_trans ir hl24;rw[e2,ci,af]at h24;left;refine⟨T,[ut j,x],rfl,.inl (bF.of ak),rfl,?_⟩;have z3:=(z2.fN (xs:=[ut (j:Int),x]) hT).drop;left;refine⟨pl,vs',rfl,z3.at,?_⟩;left;refine⟨rfl,?_⟩;left;have z4:Sep (aM R B dx d1 d2 kb cs (([pt pl (v6 vs')]++G)++(Δ++F))) (upd H T (wf [ut (j:Int),x])):=z3.sub (.cons .k1 (.cons .k1 (.cons .k1 .refl)));refine hi (k:=k-1) (F:=Δ++F) nofun hf (ok.2 it (cr hb)) (gZ.mono (λA=>aa) hi2) (bk.mono λA=>aa) nofun z4 (λl' ws Δ2 H3 a2 z5=>?_);have z6:Sep (pt pl (v6 vs')::pt l' (v6 ws)::aM R B dx d1 d2 kb cs (G++(Δ2++(Δ++F)))) H3:=z5.pull (.j2 (.j2 .e));have h1:=a1.1;have h2:=a2.1;rw[af]at h2;left;refine⟨vs',z6.at,yI z6 .e (z6.get .k1) nofun (λH4 z7=>?_)⟩;left;have eA:Δ2++(Δ++F)=(Δ2++Δ)++F:=by simp only[le]
  refine⟨_,_,rfl,vs'++ws,Δ2++Δ,?_,by rw[<-eA];exact(z7.pull .k1).drop⟩;rw[e2,<-eA];exact(a1.map λv i=>bJ.mono λA=>aa).app a2
 .rintro U H ⟨u3,u4,rfl,vs',Δ,a1,z2⟩;left;rw[take_of_length_le (by rw[a.1];exact pi _)]at a1;exact q pl vs' Δ _ a1 z2
def Dq (ro:Ro K R)(hN:oM Nl nb (aJ cs))(hcs:∀ w ∈ Nl.map (·.1),w ∈ cs.map (·.1)):∀ f,f<=40->Bm K R B dx d1 d2 kb cs Nl nb f
 |0,_=>pv (K:=K) (iS ro hN hcs nofun λg e=>absurd e nofun)
 |f+1,hf=>pv (K:=K) (iS ro hN hcs hf λg e=>by cases e;exact Dq ro hN hcs f nofun)
end
noncomputable abbrev se (d:Addr)(r:Rw):ai:=tu d r.tl
section
variable {nd:Addr}{o:Obj}{kvs:List (Key×V)}{c:Str->Int}{Nl:List (Str×List Itm)}{nb:Str->List Itm}{F G:List ai}{f:Nat}
abbrev zc (F:List ai)(kvs:List (Key×V))(N:List (Str×List Itm)):Prop:=∀ w b,(w,b) ∈ N->∃ l,a8 kvs (.inr w)=some (ul l)/\gb F 2 (ul l) b
def zc.mono (up:∀ A ∈ F,A ∈ F') (h:zc F kvs Nl):zc F' kvs Nl:=λw b hm=>let⟨l,e,i⟩:=h w b hm;⟨l,e,gb.mono up i⟩
abbrev DY (K:W.Frag)(R:Rt)(nd:Addr)(o:Obj)(kvs:List (Key×V))(Nl:List (Str×List Itm))(nb:Str->List Itm)(f:Nat):Prop:=∀ {k:Nat}{F G:List ai}{v:V}{b:List Itm}{n i:Nat}{H:Hp}{Q:VK}{E:XK},2*f+4<=k->n+4*i<=f->cP ((Nl.take i).map (·.1)) n b->gb F n v b->zc F kvs Nl->(aC nb f b).length<=24->Sep (pt nd (.aH o (.dK kvs))::(G++F)) H->(∀ l vs Δ H',aw (bJ se (Δ++F)) vs (aC nb f b)->Sep (pt l (v6 vs)::pt nd (.aH o (.dK kvs))::(G++(Δ++F))) H'->Q (ul l) H')->ae tab R k 67 [ul nd,v] H Q E
abbrev Ff (K:W.Frag)(R:Rt)(nd:Addr)(o:Obj)(kvs:List (Key×V))(Nl:List (Str×List Itm))(nb:Str->List Itm)(f:Nat):Prop:=∀ {k:Nat}{F G:List ai}{v:V}{it:Itm}{n i:Nat}{H:Hp}{Q:VK}{E:XK},2*f+3<=k->n+4*i<=f->jJ ((Nl.take i).map (·.1)) n it->gp F n v it->zc F kvs Nl->(ba nb f it).length<=24->Sep (pt nd (.aH o (.dK kvs))::(G++F)) H->(∀ l vs Δ H',aw (bJ se (Δ++F)) vs (ba nb f it)->Sep (pt l (v6 vs)::pt nd (.aH o (.dK kvs))::(G++(Δ++F))) H'->Q (ul l) H')->ae tab R k 69 [ul nd,v] H Q E
def kD (ee:es=h.map ut)(h2:h.length<=10)(z:Sep (A::(G++F)) H)(q:∀ hd H1,Sep (A::(G++([tu hd (h.map ut)]++F))) H1->Q (ul hd) H1):fN es H Q:=by
 subst ee;refine bq z (by rw[ce];omega) (λhd H1 z1=>?_);exact q hd H1 (Sep.mv (P:=[]) (Δ:=[tu hd (h.map ut)]) (L:=A::G) (O:=F) z1.toT)
def nW {hd:Addr}{n i:Nat}(ihb:DY K R nd o kvs Nl nb f)(hf40:f<=40)(hk:2*f+4<=k)(hf:n+4*i<=f)(ok:cP ((Nl.take i).map (·.1)) n b)(im:gb F n v b)(bk:zc F kvs Nl)(hl24:(aC nb f b).length<=24)(h0:h≠[])(h2:h.length<=10)(z:Sep (pt nd (.aH o (.dK kvs))::(G++([tu hd (h.map ut)]++F))) H)
  (q:∀ l vs Δ H',aw (bJ se (Δ++F)) vs (pre h (aC nb f b))->Sep (pt l (v6 vs)::pt nd (.aH o (.dK kvs))::(G++(Δ++F))) H'->Q (ul l) H'):ae tab R k 67 [ul nd,v] H (λx H2=>ae tab R k 68 [ul hd,x] H2 Q E) E:=by
 refine ihb (F:=[tu hd (h.map ut)]++F) hk hf ok (gb.mono (λA=>aa) im) (bk.mono λA=>aa) hl24 z (λl vs Δ H2 a z3=>?_);have hpl:∀ p ∈ aC nb f b,p.1.length<=300:=λp hp=>by have:=cW (K:=2*f+1) (λi _=>gT) p hp;omega
 refine mL (G:=pt nd (.aH o (.dK kvs))::G) (F:=Δ++([tu hd (h.map ut)]++F)) (L:=aC nb f b) nofun (aa li) h0 h2 hpl (by rw[a.1];omega) a z3 (λl' vs' Δ' H3 a' z4=>?_);have e:Δ'++(Δ++([tu hd (h.map ut)]++F))=(Δ'++(Δ++[tu hd (h.map ut)]))++F:=by simp only[le]
 have z5:Sep (pt l' (v6 vs')::pt nd (.aH o (.dK kvs))::(G++(Δ'++(Δ++([tu hd (h.map ut)]++F))))) H3:=(z4.pull .k1).drop;rw[e]at a';rw[e]at z5;exact q l' vs' _ H3 a' z5
def lb (hf40:f<=40)(hi:Ff K R nd o kvs Nl nb f):DY K R nd o kvs Nl nb f:=by
 intro k F G v b n i H Q E hk hf ok im bk hl24 z q;obtain⟨l,vs,rfl,m,a⟩:=im;have hl:vs.length<=30:=by rw[a.1];exact ok.1
 delta gJ;left;refine ay z (by decide) (λpl H1 z1=>?_);left;refine⟨rfl,?_⟩;left;refine Bh (fz (G:=_::_::G) m z1) ?_;refine pL (xs:=vs) (λj U H=>∃ pl u3 u4,U=[some (ul nd),some (ul l),some (ul pl),u3,u4]/\∃ vs' Δ,aw (bJ se (Δ++F)) vs' (a7 (ba nb f) 0 (b.take j))/\Sep (pt pl (v6 vs')::pt nd (.aH o (.dK kvs))::(G++(Δ++F))) H) ⟨pl,_,_,rfl,[],[],.nil,z1⟩ ?_ ?_ ?_
 .rintro j U H ⟨pl,u3,u4,rfl,vs',Δ,_,z⟩;exact fz (G:=_::_::G) (F:=Δ++F) (aa m) z
 .rintro j x T U H hx ⟨pl,u3,u4,rfl,vs',Δ,a1,z2⟩ hT;obtain⟨it,hb,hi2⟩:=a.get hx;have hj:j<b.length:=(ss.mp hb).1;have e1:b.take (j+1)=b.take j++[it]:=by rw[take_succ,hb];rfl
  have e2:a7 (ba nb f) 0 (b.take (j+1))=a7 (ba nb f) 0 (b.take j)++pre [(j:Int)] (ba nb f it):=by
   rw[e1,kN,db];rw[show 0+min j b.length=j by omega]
  have h24:(a7 (ba nb f) 0 (b.take (j+1))).length<=24:=Nat.le_trans ir hl24;rw[e2,ci,af]at h24;left;refine⟨T,[ut j,x],rfl,.inl (bF.of ak),rfl,?_⟩;have z3:=(z2.fN (xs:=[ut (j:Int),x]) hT).drop;left;refine⟨rfl,?_⟩;left;have z4:Sep (pt nd (.aH o (.dK kvs))::(([pt pl (v6 vs')]++G)++(Δ++F))) (upd H T (wf [ut (j:Int),x])):=z3.pull .k1;refine kD (h:=[(j:Int)]) rfl (by show 1<=10;omega) z4 (λhd H3 z5=>?_);left;refine⟨rfl,?_⟩;left;refine hi (k:=k-1) (F:=[tu hd ([(j:Int)].map ut)]++(Δ++F)) nofun hf (ok.2 it (cr hb)) (gp.mono (λA h=>aa (aa h)) hi2) (bk.mono λA h=>aa (aa h)) nofun z5 (λl' ws Δ2 H4 a2 z6=>?_);have hpl:∀ p ∈ ba nb f it,p.1.length<=300:=λp hp=>by have:=gT p hp;omega
  left;refine mL (k:=k-1) (G:=pt nd (.aH o (.dK kvs))::([pt pl (v6 vs')]++G)) (F:=Δ2++([tu hd ([(j:Int)].map ut)]++(Δ++F))) (L:=ba nb f it) nofun (aa li) (cons_ne_nil _ _) (by show 1<=10;omega) hpl (by rw[a2.1];omega) a2 z6 (λl3 ws3 Δ3 H5 a3 z7=>?_);have h1:=a1.1;have h3:=a3.1;rw[af]at h3;have z8:Sep (pt l3 (v6 ws3)::pt l' (v6 ws)::pt nd (.aH o (.dK kvs))::pt pl (v6 vs')::(G++(Δ3++(Δ2++([tu hd ([(j:Int)].map ut)]++(Δ++F)))))) H5:=z7;left;refine cB z8 (z8.get .k3) z8.at nofun (λp9 H6 z9=>?_);left;have eA:Δ3++(Δ2++([tu hd ([(j:Int)].map ut)]++(Δ++F)))=(Δ3++(Δ2++([tu hd ([(j:Int)].map ut)]++Δ)))++F:=by simp only[le]
  refine⟨p9,_,_,rfl,vs'++ws3,Δ3++(Δ2++([tu hd ([(j:Int)].map ut)]++Δ)),?_,by rw[<-eA];exact z9.sub (.cons .e (.drop (.drop (.cons .e (.drop .refl)))))⟩;rw[e2,<-eA];exact(a1.map λv i=>bJ.mono λA h=>aa (aa (aa h))).app a3
 .rintro U H ⟨pl,u3,u4,rfl,vs',Δ,a1,z2⟩;left;rw[take_of_length_le (by rw[a.1];exact pi _)]at a1;exact q pl vs' Δ _ a1 z2
end
section
variable {nd:Addr}{o:Obj}{kvs:List (Key×V)}{c:Str->Int}{Nl:List (Str×List Itm)}{nb:Str->List Itm}{F G:List ai}{f:Nat}{A:ai}
def bM (hl:es.length<=10)(z:Sep (A::(G++F)) H)(q:∀ t H1,Sep (A::(G++([tu t es]++F))) H1->Q (ul t) H1):fN es H Q:=by
 refine bq z nofun (λt H1 z1=>?_);exact q t H1 (Sep.mv (P:=[]) (Δ:=[tu t es]) (L:=A::G) (O:=F) z1.toT)
def jr (ro:Ro K R)(hN:oM Nl nb c)(hf40:f<=40)(ih:∀ g,f=g+1->DY K R nd o kvs Nl nb g):Ff K R nd o kvs Nl nb f:=by
 intro k F G v it n i H Q E hk hf ok im bk hl24 z q;have zt:∀ {H:Hp}{F:List ai}{t:Addr}{xs:List V},tu t xs ∈ F->Sep (pt nd (.aH o (.dK kvs))::(G++F)) H->H t=some (wf xs):=λ{H F t xs} m z=>fO (G:=pt nd (.aH o (.dK kvs))::G) m z
 delta dW;cases it with
 |row r=>
  obtain⟨t,rfl,m⟩:∃ t,v=ul t/\tu t r.tl ∈ F:=by cases n<;>exact im
  obtain⟨s,rest,er,h1,h2,h3⟩:=kX r;have e:=zt m z;rw[er]at e;left;refine aj e nu ?_;left;refine bz rfl rfl ?_;left;refine ao h1 ?_;left;refine aj e nu ?_;left;refine bz rfl rfl ?_;left;refine ao h2 ?_;left;refine aj e nu ?_;left;refine jU rfl rfl ?_;rw[h3];left;refine aQ rfl ?_;left;refine bM (by decide) z (λP H1 z1=>?_);left;refine bM (by show 2<=10;omega) z1 (λT H2 z2=>?_);left;refine ay z2 (by show 1<=10000;omega) (λl H3 z3=>?_);refine q l [ul T] ([tu T [ul P,ul t]]++[tu P []]) H3 ?_ z3;have e1:ba nb f (.row r)=[([],r)]:=by cases f<;>rfl
  rw[e1];exact aw.snoc (α:=List Int×Rw) aw.nil ⟨T,P,t,rfl,li,dl _ li,aa m⟩
 |dO w=>
  obtain⟨t,rfl,m⟩:∃ t,v=ul t/\tu t [v0 "do",v0 w] ∈ F:=by cases n<;>exact im
  have ok':w ∈ (Nl.take i).map (·.1):=by cases n<;>exact ok
  obtain⟨s,hs,oks,cw,hat⟩:=hN.mem ok';obtain⟨g,rfl⟩:∃ g,f=g+1:=⟨f-1,by omega⟩;obtain⟨l,el,sp⟩:=bk w (nb w) (cr hat);left;refine aj (zt m z) rfl ?_;right;refine aj (zt m z) rfl ?_;left;refine uy (k:=.inr w) z.at el ?_;left;exact ih g rfl (k:=k-1) (n:=2) (i:=s) nofun nofun oks sp bk hl24 z q
 |tms mm b=>
  cases n with
  |zero=>exact im.elim
  |succ n=>
   obtain⟨t,l,vs,rfl,m1,m2,a⟩:=im;obtain⟨g,rfl⟩:∃ g,f=g+1:=⟨f-1,by omega⟩;have hl24':((List.range mm.toNat).map λt:Nat=>pre [(t:Int)] (aC nb g b)).flatten.length<=24:=hl24;left;refine aj (zt m1 z) rfl ?_;right;refine aj (zt m1 z) rfl ?_;left;refine bz rfl rfl ?_;left;refine aQ rfl ?_;left;refine ay z (by decide) (λpl H1 z1=>?_);left;refine⟨rfl,?_⟩;left;refine aj (zt m1 z1.drop) rfl ?_;left;refine⟨by have:=ok.1;omega,by have:=ok.1;omega,?_⟩;refine fh (λs U H=>∃ pl u3,U=[some (ul nd),some (ul t),some (ul pl),u3,none,none,none]/\∃ vs' Δ,vs'.length<=s*24/\aw (bJ se (Δ++F)) vs' (((List.range s).map λs:Nat=>pre [(s:Int)] (aC nb g b)).flatten)/\Sep (pt pl (v6 vs')::pt nd (.aH o (.dK kvs))::(G++(Δ++F))) H) ⟨pl,_,rfl,[],[],by decide,.nil,z1⟩ (λs U H hs hI=>?_) (λU H hI=>?_)
   .obtain⟨pl,u3,rfl,vs',Δ,hl',a',z2⟩:=hI;have hfb:(aC nb g b).length<=24:=by
     have e1:(List.range mm.toNat)=0::(List.range (mm.toNat-1)).map (·+1):=by
      rw[show mm.toNat=(mm.toNat-1)+1 by omega,List.range_succ_eq_map];rfl
     rw[e1,map_cons,flatten_cons,ci,af]at hl24'
     omega
    left;refine⟨rfl,?_⟩;left;have z2':Sep (pt nd (.aH o (.dK kvs))::(([pt pl (v6 vs')]++G)++(Δ++F))) H:=z2.pull .k1;refine kD (h:=[0+(s:Int)]) rfl (by show 1<=10;omega) z2' (λhd H2 z3=>?_);left;refine⟨rfl,?_⟩;left;refine aj (fO (G:=pt nd (.aH o (.dK kvs))::([pt pl (v6 vs')]++G)) (F:=[tu hd ([0+(s:Int)].map ut)]++(Δ++F)) (aa (aa m1)) z3) rfl ?_;left;refine nW (K:=K) (k:=k-1) (h:=[0+(s:Int)]) (F:=Δ++F) (ih g rfl) nofun nofun nofun ok.2 ⟨l,vs,rfl,aa m2,a.map λv i=>gp.mono λA=>aa⟩ (bk.mono λA=>aa) hfb (cons_ne_nil _ _) (by show 1<=10;omega) z3 (λl3 ws Δ2 H3 a2 z4=>?_);have e0:pre [0+(s:Int)] (aC nb g b)=pre [(s:Int)] (aC nb g b):=by rw[Int.zero_add]
    rw[e0]at a2;have hwl:ws.length<=24:=by rw[a2.1,af];exact hfb
    have z5:Sep (pt l3 (v6 ws)::pt nd (.aH o (.dK kvs))::pt pl (v6 vs')::(G++(Δ2++(Δ++F)))) H3:=z4;left;refine cB z5 (z5.get .k2) z5.at (by have:=ok.1.2;omega) (λp9 H6 z9=>?_);left;have eA:Δ2++(Δ++F)=(Δ2++Δ)++F:=by simp only[le]
    refine⟨p9,_,rfl,vs'++ws,Δ2++Δ,by rw[ci];omega,?_,by rw[<-eA];exact z9.sub (.cons .e (.drop (.cons .e (.drop .refl))))⟩;rw[range_succ,dL,flatten_append,<-eA];refine aw.app (a'.map λv i=>bJ.mono λA h=>aa h) ?_;show aw _ ws (pre [(s:Int)] (aC nb g b)++[]);rw[append_nil];exact a2
   .obtain⟨pl,u3,rfl,vs',Δ,hl',a',z2⟩:=hI;left;exact q pl vs' Δ _ a' z2
 |whn oo b d=>
  cases n with
  |zero=>exact im.elim
  |succ n=>
   obtain⟨t,l,vs0,l',vs2,rfl,m1,⟨m2,a⟩,m3,a3⟩:=im;obtain⟨g,rfl⟩:∃ g,f=g+1:=⟨f-1,by omega⟩;have hl24':(mY oo (pre [0] (aC nb g b)) (pre [1] (aC nb g d)) (d.length ==0)).length<=24:=hl24;have q':∀ l vs Δ H',aw (bJ se (Δ++F)) vs (mY oo (pre [0] (aC nb g b)) (pre [1] (aC nb g d)) (d.length ==0))->Sep (pt l (v6 vs)::pt nd (.aH o (.dK kvs))::(G++(Δ++F))) H'->Q (ul l) H':=q;have hb24:(aC nb g b).length+1<=24:=by
    unfold mY at hl24'
    split at hl24'
    .rw[length_cons,af]at hl24';omega
    .rw[length_cons,ci,af]at hl24';omega
   left;refine aj (zt m1 z) rfl ?_;right;refine aj (zt m1 z) rfl ?_;right;refine aj (zt m1 z) rfl ?_;left;refine jU rfl rfl ?_;left;refine ao rfl ?_;left;refine⟨rfl,?_⟩;left;refine kD (h:=[0]) rfl (by show 1<=10;omega) z (λhd H2 z3=>?_);left;refine⟨rfl,?_⟩;left;refine aj (zt (F:=[tu hd ([0].map ut)]++F) (aa m1) z3) rfl ?_;left;refine nW (K:=K) (k:=k-1) (h:=[0]) (ih g rfl) nofun nofun nofun ok.2.1 ⟨l,vs0,rfl,m2,a⟩ bk nofun (cons_ne_nil _ _) (by show 1<=10;omega) z3 (λol vs Δ H3 a1 z4=>?_);have hvn:(vs.length:Int)=((aC nb g b).length:Int):=by rw[a1.1,af]
   left;refine aj (zt (F:=Δ++F) (aa m1) z4.drop) rfl ?_;left;refine ay z4 (by decide) (λp0 H4 z5=>?_);left;refine eq_nil (fz (G:=_::_::_::G) (F:=Δ++F) (aa m3) z5) z5.at (sF (G:=_::_::G) (F:=Δ++F) (aa m3) z5) ?_;have z5:=z5.drop;have z5':Sep (pt nd (.aH o (.dK kvs))::(([pt ol (v6 vs)]++G)++(Δ++F))) H4:=z5.pull .k1;clear z z3 z4;left
   by_cases hc:vs2.length=0
   .rw[decide_eq_true hc];have hd0:d=[]:=length_eq_zero_iff.mp (by rw[<-a3.1];exact hc);subst hd0;refine aQ rfl ?_;left;refine bM (by decide) z5' (λP H5 z6=>?_);left;refine bG (z6.get .k1) ?_;left;refine aj (fO (G:=pt nd (.aH o (.dK kvs))::([pt ol (v6 vs)]++G)) (F:=[tu P []]++(Δ++F)) (aa (aa m1)) z6) rfl ?_;left;refine bM (by show 3<=10;omega) z6 (λsp H6 z7=>?_);left;refine bM (by show 2<=10;omega) z7 (λT H7 z8=>?_);left;refine ay z8 (by show 1<=10000;omega) (λl1 H8 z9=>?_);have z9':Sep (pt l1 (v6 [ul T])::pt nd (.aH o (.dK kvs))::pt ol (v6 vs)::(G++([tu T [ul P,ul sp]]++([tu sp [v0 "hop",ut vs.length,ut (1-oo)]]++([tu P []]++(Δ++F)))))) H8:=z9;left;refine cB z9' z9'.at (z9'.get .k2) (by show 1+vs.length<=100000;omega) (λl2 H9 z10=>?_);have eA:[tu T [ul P,ul sp]]++([tu sp [v0 "hop",ut vs.length,ut (1-oo)]]++([tu P []]++(Δ++F)))=([tu T [ul P,ul sp]]++([tu sp [v0 "hop",ut vs.length,ut (1-oo)]]++([tu P []]++Δ)))++F:=by simp only[le]
    refine q' l2 ([ul T]++vs) _ H9 ?_ (by rw[<-eA];exact z10.sub (.cons .e (.drop (.cons .e (.drop .refl)))));rw[<-eA];show aw _ (ul T::vs) (([],Rw.hop ((pre [0] (aC nb g b)).length:Int) (some (1-oo)))::pre [0] (aC nb g b));rw[af,<-hvn];exact aw.cons ⟨T,P,sp,rfl,li,dl _ (dl _ li),dl _ li⟩ (a1.map λv i=>bJ.mono λA h=>aa (aa (aa h)))
   .rw[decide_eq_false hc];have hcn:(d.length ==0)=false:=beq_eq_false_iff_ne.mpr (by rw[<-a3.1];exact hc);rw[hcn]at hl24' q';have hsum:(aC nb g b).length+(aC nb g d).length+2<=24:=by
     unfold mY at hl24';rw[length_cons,ci,length_cons,af,af]at hl24'
     omega
    refine ao rfl ?_;left;refine⟨rfl,?_⟩;left;refine kD (h:=[1]) rfl (by show 1<=10;omega) z5' (λhd2 H5 z6=>?_);left;refine⟨rfl,?_⟩;left;refine aj (fO (G:=pt nd (.aH o (.dK kvs))::([pt ol (v6 vs)]++G)) (F:=[tu hd2 ([1].map ut)]++(Δ++F)) (aa (aa m1)) z6) rfl ?_;left;refine nW (K:=K) (k:=k-1) (h:=[1]) (F:=Δ++F) (ih g rfl) nofun nofun nofun ok.2.2 ⟨l',vs2,rfl,aa m3,a3.map λv i=>gp.mono λA=>aa⟩ (bk.mono λA=>aa) nofun (cons_ne_nil _ _) (by show 1<=10;omega) z6 (λtl ws Δ2 H6 a2 z7=>?_);have hwn:(ws.length:Int)=((aC nb g d).length:Int):=by rw[a2.1,af]
    have z7':Sep (pt nd (.aH o (.dK kvs))::(([pt tl (v6 ws),pt ol (v6 vs)]++G)++(Δ2++(Δ++F)))) H6:=z7.pull .k1;left;refine bM (by decide) z7' (λP H7 z8=>?_);left;refine bG (z8.get .k2) ?_;left;refine aj (fO (G:=pt nd (.aH o (.dK kvs))::([pt tl (v6 ws),pt ol (v6 vs)]++G)) (F:=[tu P []]++(Δ2++(Δ++F))) (aa (aa (aa m1))) z8) rfl ?_;left;refine bM (by show 3<=10;omega) z8 (λsp H8 z9=>?_);left;refine bM (by show 2<=10;omega) z9 (λT H9 z10=>?_);left;refine ay z10 (by show 1<=10000;omega) (λl1 H10 z11=>?_);have z11':Sep (pt nd (.aH o (.dK kvs))::(([pt l1 (v6 [ul T]),pt tl (v6 ws),pt ol (v6 vs)]++G)++([tu T [ul P,ul sp]]++([tu sp [v0 "hop",ut ((vs.length:Int)+1),ut (1-oo)]]++([tu P []]++(Δ2++(Δ++F))))))) H10:=z11.pull .k1;left;refine cB z11' (z11'.get .k1) (z11'.get .k3) (by show 1+vs.length<=100000;omega) (λl2 H11 z12=>?_);have z12':Sep (pt nd (.aH o (.dK kvs))::(([pt l2 (v6 ([ul T]++vs)),pt tl (v6 ws)]++G)++([tu T [ul P,ul sp]]++([tu sp [v0 "hop",ut ((vs.length:Int)+1),ut (1-oo)]]++([tu P []]++(Δ2++(Δ++F))))))) H11:=z12.sub (.cons .k1 (.cons .e (.drop (.cons .e (.drop .refl)))));clear z5' z6 z7 z7' z8 z9 z10 z11 z11' z12;left;refine bM (by decide) z12' (λP2 H12 z13=>?_);left;refine bG (z13.get .k2) ?_;left;refine bM (by show 3<=10;omega) z13 (λsp2 H13 z14=>?_);left;refine bM (by show 2<=10;omega) z14 (λT2 H14 z15=>?_);left;refine ay z15 (by show 1<=10000;omega) (λl3 H15 z16=>?_);obtain⟨ΔA,eA⟩:∃ ΔA,[tu T2 [ul P2,ul sp2]]++([tu sp2 [v0 "hop",ut (ws.length:Int),v4]]++([tu P2 [ut 2]]++([tu T [ul P,ul sp]]++([tu sp [v0 "hop",ut ((vs.length:Int)+1),ut (1-oo)]]++([tu P []]++(Δ2++(Δ++F)))))))=ΔA++F:=⟨[tu T2 [ul P2,ul sp2]]++([tu sp2 [v0 "hop",ut (ws.length:Int),v4]]++([tu P2 [ut 2]]++([tu T [ul P,ul sp]]++([tu sp [v0 "hop",ut ((vs.length:Int)+1),ut (1-oo)]]++([tu P []]++(Δ2++Δ)))))),by simp only[le]⟩;have pr1:bJ se (ΔA++F) (ul T) ([],.hop ((vs.length:Int)+1) (some (1-oo))):=by
     rw[<-eA];exact⟨T,P,sp,rfl,aa (aa (aa li)),aa (aa (aa (aa (aa li)))),aa (aa (aa (aa li)))⟩
    have pr2:bJ se (ΔA++F) (ul T2) ([2],.hop (ws.length:Int) none):=by
     rw[<-eA];exact⟨T2,P2,sp2,rfl,li,aa (aa li),aa li⟩
    have a':aw (bJ se (ΔA++F)) vs (pre [0] (aC nb g b)):=by rw[<-eA];exact a1.map λv i=>bJ.mono λA h=>aa (aa (aa (aa (aa (aa (aa h))))))
    have a2':aw (bJ se (ΔA++F)) ws (pre [1] (aC nb g d)):=by rw[<-eA];exact a2.map λv i=>bJ.mono λA h=>aa (aa (aa (aa (aa (aa h)))))
    have z17:Sep (pt l3 (v6 [ul T2])::pt nd (.aH o (.dK kvs))::pt l2 (v6 ([ul T]++vs))::pt tl (v6 ws)::(G++(ΔA++F))) H15:=by
     rw[<-eA];exact z16
    clear z12' z13 z14 z15 z16;left;refine cB z17 (z17.get .k2) z17.at (by rw[ci];show 1+vs.length+1<=100000;omega) (λl4 H16 z18=>?_);left;refine cB z18 z18.at (z18.get (.j2 (.j2 .e))) (by rw[ci,ci];show 1+vs.length+1+ws.length<=100000;omega) (λl5 H17 z19=>?_);refine q' l5 _ ΔA H17 ?_ (z19.sub (.cons .e (.drop (.drop (.cons .e (.drop (.drop .refl)))))));show aw _ (([ul T]++vs)++[ul T2]++ws) (([],Rw.hop (((pre [0] (aC nb g b)).length:Int)+1) (some (1-oo)))::(pre [0] (aC nb g b)++([2],Rw.hop ((pre [1] (aC nb g d)).length:Int) none)::pre [1] (aC nb g d)));have eL:(([],Rw.hop (((pre [0] (aC nb g b)).length:Int)+1) (some (1-oo)))::(pre [0] (aC nb g b)++([2],Rw.hop ((pre [1] (aC nb g d)).length:Int) none)::pre [1] (aC nb g d)))=(([([],Rw.hop ((vs.length:Int)+1) (some (1-oo)))]++pre [0] (aC nb g b))++[([2],Rw.hop (ws.length:Int) none)])++pre [1] (aC nb g d):=by
     rw[af,af,<-hvn,<-hwn];simp
    rw[eL];exact((((aw.snoc (α:=List Int×Rw) aw.nil pr1).app a').snoc pr2).app a2')
def Cd (ro:Ro K R)(hN:oM Nl nb c):∀ f,f<=40->DY K R nd o kvs Nl nb f
 |0,h=>lb (K:=K) h (jr ro hN h λg e=>absurd e nofun)
 |f+1,h=>lb (K:=K) h (jr ro hN h λg e=>by cases e;exact Cd ro hN f nofun)
end
def eg {f:Itm->List (List Int×Rw)}:∀ {b:List Itm}{j:Nat},(∀ i ∈ b,(f i).length<=24->∀ p ∈ f i,Rw.ok p.2)->(a7 f j b).length<=24->∀ p ∈ a7 f j b,Rw.ok p.2
 | [],j,_,_,p,hp=>by cases hp
 |x::b,j,h,hl,p,hp=>by
  have hl:(pre [(j:Int)] (f x)++a7 f (j+1) b).length<=24:=hl;rw[ci,af]at hl;rcases mem_append.mp hp with hp|hp
  .obtain⟨p',hp',rfl⟩:=List.mem_map.mp hp;exact h x li nofun p' hp'
  .exact eg (λi hi=>h i (dl _ hi)) nofun p hp
def m9 (a:∀ p ∈ L,Rw.ok p.2):∀ p ∈ pre h L,Rw.ok p.2:=λp hp=>by
 obtain⟨p',hp',rfl⟩:=List.mem_map.mp hp;exact a p' hp'
def yJ {ns:List Str}(h:oM Nl nb c):∀ {f n i:Nat}{it:Itm},n+4*i<=f->jJ ((Nl.take i).map (·.1)) n it->(ba nb f it).length<=24->∀ p ∈ ba nb f it,Rw.ok p.2:=by
 intro f
 induction f with
 |zero=>
  intro n i it hf ok hl p hp;cases it with
  |row r=>rw[mem_singleton.mp hp];cases n<;>exact ok
  |dO w=>cases hp
  |tms m b=>cases hp
  |whn o b d=>cases hp
 |succ f ih=>
  intro n i it hf ok hl p hp;cases it with
  |row r=>rw[mem_singleton.mp hp];cases n<;>exact ok
  |dO w=>
   have hw:w ∈ (Nl.take i).map (·.1):=by cases n<;>exact ok
   obtain⟨j,hj,okj,cj,_⟩:=h.mem hw;exact eg (λx hx=>ih (n:=2) (i:=j) nofun (okj.2 x hx)) hl p hp
  |tms m b=>cases n with
   |zero=>exact ok.elim
   |succ n=>
    obtain⟨L,hL,hp⟩:=List.mem_flatten.mp hp;obtain⟨t,ht,rfl⟩:=List.mem_map.mp hL;have h1:(pre [(t:Int)] (a7 (ba nb f) 0 b)).length<=24:=by
     obtain⟨s,t',e⟩:=List.append_of_mem hL;have hl:((List.range m.toNat).map λt:Nat=>pre [(t:Int)] (a7 (ba nb f) 0 b)).flatten.length<=24:=hl;rw[e,flatten_append,flatten_cons,ci,ci]at hl
     omega
    rw[af]at h1;exact m9 (eg (λx hx=>ih (n:=n) (i:=i) nofun (ok.2.2 x hx)) h1) p hp
  |whn o b d=>cases n with
   |zero=>exact ok.elim
   |succ n=>
    have hp':p ∈ mY o (pre [0] (a7 (ba nb f) 0 b)) (pre [1] (a7 (ba nb f) 0 d)) (d.length ==0):=hp;have hl':(mY o (pre [0] (a7 (ba nb f) 0 b)) (pre [1] (a7 (ba nb f) 0 d)) (d.length ==0)).length<=24:=hl;have oO:B7 (some (1-o)):=by
     rcases ok.1 with rfl|rfl
     .exact .inr rfl
     .exact .inl rfl
    have one:(a7 (ba nb f) 0 b).length<=24->∀ p ∈ pre [0] (a7 (ba nb f) 0 b),Rw.ok p.2:=λhh=>m9 (eg (λx hx=>ih (n:=n) (i:=i) nofun (ok.2.1.2 x hx)) hh)
    have oth:(a7 (ba nb f) 0 d).length<=24->∀ p ∈ pre [1] (a7 (ba nb f) 0 d),Rw.ok p.2:=λhh=>m9 (eg (λx hx=>ih (n:=n) (i:=i) nofun (ok.2.2.2 x hx)) hh)
    clear hp hl;generalize (d.length ==0)=e at hp' hl';unfold mY at hp' hl';cases e<;>dsimp only at hp' hl'
    rotate_left
    .rw[length_cons,af]at hl';rcases lv.mp hp' with rfl|hp'
     .exact⟨⟨by rw[af];show(0:Int)<=((a7 (ba nb f) 0 b).length:Int);omega,by rw[af];show((a7 (ba nb f) 0 b).length:Int)<=24;omega⟩,oO⟩
     .exact one nofun p hp'
    .rw[length_cons,ci,length_cons,af,af]at hl';rcases lv.mp hp' with rfl|hp'
     .exact⟨⟨by rw[af];show(0:Int)<=((a7 (ba nb f) 0 b).length:Int)+1;omega,by rw[af];show((a7 (ba nb f) 0 b).length:Int)+1<=24;omega⟩,oO⟩
     .rcases mem_append.mp hp' with hp'|hp'
      .exact one nofun p hp'
      .rcases lv.mp hp' with rfl|hp'
       .exact⟨⟨by rw[af];show(0:Int)<=((a7 (ba nb f) 0 d).length:Int);omega,by rw[af];show((a7 (ba nb f) 0 d).length:Int)<=24;omega⟩,True.intro⟩
       .exact oth nofun p hp'
def jb {x:Addr}(hk:1<=k)(s:Sep (pt x (.exc (R.cad 3) none [] true)::O) H)(q:∀ d H',Sep (pt x (.exc (R.cad 3) (some d) [("many",v)] true)::pt d (.own x)::O) H'->Q v4 H'):ae tab R k 2 [ul x,v] H Q E:=by
 delta bY;right;refine⟨_,3,_,_,_,_,rfl,by grind,rfl,?_⟩;right;refine Cm s rfl rfl (λd H hs=>?_);right;exact q d H hs
def xf (h:w ∉ cs.map (·.1)):aJ (cs++[(w,i)]) w=i:=by
 unfold aJ
 induction cs with
 |nil=>simp[lookup_cons]
 |cons p cs ih=>
  have hne:w≠p.1:=λe=>h (by rw[e];exact List.mem_map.mpr ⟨p,li,rfl⟩)
  rw[cons_append,lookup_cons,beq_eq_false_iff_ne.mpr hne];exact ih λhm=>h (by rw[map_cons];exact dl _ hm)
def xC {x:Str}(h:x ∈ cs.map (·.1)):aJ (cs++[(w,i)]) x=aJ cs x:=by
 unfold aJ
 induction cs with
 |nil=>cases h
 |cons p cs ih=>
  rw[cons_append,lookup_cons,lookup_cons]
  by_cases e:x=p.1
  .rw[e,beq_self_eq_true]
  .rw[beq_eq_false_iff_ne.mpr e];refine ih ?_;rcases lv.mp h with h|h
   .exact absurd h e
   .exact h
def zH:∀ {N:List (Str×List Itm)}{j:Nat}{w:Str}{b:List Itm},(N.map (·.1)).Nodup->(∀ j w b,N[j]? =some (w,b)->cP ((N.take j).map (·.1)) 2 b)->N[j]? =some (w,b)->aJ (bt N) w=aP (aJ (bt N)) 2 b:=by
 suffices hh:∀ (n:Nat){N:List (Str×List Itm)}{j:Nat}{w:Str}{b:List Itm},N.length=n->(N.map (·.1)).Nodup->(∀ j w b,N[j]? =some (w,b)->cP ((N.take j).map (·.1)) 2 b)->N[j]? =some (w,b)->aJ (bt N) w=aP (aJ (bt N)) 2 b from λ{N j w b}=>hh N.length rfl
 intro n
 induction n with
 |zero=>intro N j w b hl _ _ e;rw[length_eq_zero_iff.mp hl]at e;cases e
 |succ n ih=>
  intro N' j w b hl nd ok e;obtain⟨N,p,rfl⟩:∃ N p,N'=N++[p]:=⟨N'.dropLast,N'.getLast (λz=>by rw[z]at hl;cases hl),(List.dropLast_concat_getLast _).symm⟩;have hl1:N.length=n:=by rw[ci]at hl;simpa using hl
  rw[dL]at nd;have nd1:=(nodup_append.mp nd).1;have hp:p.1 ∉ N.map (·.1):=λhm=>(nodup_append.mp nd).2.2 _ hm _ li rfl
  have ext:∀ x ∈ N.map (·.1),aJ (bt (N++[p])) x=aJ (bt N) x:=λx hx=>by
   rw[dy];refine xC ?_;rw[bN];exact hx
  have okN:∀ j w b,N[j]? =some (w,b)->cP ((N.take j).map (·.1)) 2 b:=λj w b e=>by
   have hj:=(ss.mp e).1;have:=ok j w b (by rw[getElem?_append_left hj];exact e)
   rwa [List.take_append_of_le_length nofun]at this
  have cn:∀ {ns:List Str}{b:List Itm},cP ns 2 b->(∀ x ∈ ns,x ∈ N.map (·.1))->aP (aJ (bt (N++[p]))) 2 b=aP (aJ (bt N)) 2 b:=λ{ns b} o hs=>by
   show(b.map _).sum=(b.map _).sum;rw[List.map_congr_left λi hi=>iM.ext (λx hx=>ext x (hs x hx)) (o.2 i hi)]
  by_cases hj:j<N.length
  .have e':N[j]? =some (w,b):=by rwa [getElem?_append_left hj]at e
   have hwm:w ∈ N.map (·.1):=List.mem_map.mpr ⟨_,cr e',rfl⟩;rw[ext w hwm,ih hl1 nd1 okN e',cn (okN j w b e') λx hx=>?_];rw[map_take]at hx;exact List.mem_of_mem_take hx
  .have hj':j=N.length:=by
    have:=(ss.mp e).1;rw[ci]at this;simp at this
    omega
   subst hj';rw[getElem?_append_right (pi _),Nat.sub_self]at e;cases e;have o:=ok N.length w b (by rw[getElem?_append_right (pi _),Nat.sub_self];rfl);rw[List.take_append_of_le_length (pi _),take_of_length_le (pi _)]at o;rw[cn o λx hx=>hx,dy];refine xf ?_;rw[bN];exact hp
abbrev DB (N:List (Str×List Itm))(w:Str):List Itm:=(N.lookup w).getD []
def uN:∀ {N:List (Str×List Itm)}{j:Nat}{w:Str}{b:List Itm},(N.map (·.1)).Nodup->N[j]? =some (w,b)->DB N w=b
 |p::N,0,w,b,_,e=>by
  cases e;unfold DB;rw[lookup_cons,beq_self_eq_true]
  rfl
 |p::N,j+1,w,b,nd,e=>by
  have nd':=nodup_cons.mp nd;have e':N[j]? =some (w,b):=e;have hne:w≠p.1:=λz=>nd'.1 (by show p.1 ∈ _;rw[<-z];exact List.mem_map.mpr ⟨_,cr e',rfl⟩)
  have:=uN nd'.2 e';unfold DB at this⊢;rw[lookup_cons,beq_eq_false_iff_ne.mpr hne];exact this
def AE (h:mZ F kvs N)(hn:zl N):oM N (DB N) (aJ (bt N)):=⟨λj w b e=>by
 have ok:∀ j w b,N[j]? =some (w,b)->cP ((N.take j).map (·.1)) 2 b:=λj w b e=>let⟨_,_,_,o⟩:=h.2 j w b e;o
 exact⟨uN hn.1 e,ok j w b e,zH hn.1 ok e⟩⟩
def zM (h:mZ F kvs N)(hn:zl N):zc F kvs N:=λw b hm=>by
 obtain⟨j,hj⟩:=List.mem_iff_getElem?.mp hm;obtain⟨l,e1,s,o⟩:=h.2 j w b hj;exact⟨l,kQ (kR h hn) e1,s⟩
abbrev kn (p:Addr×Rw):V:=ul p.1
def kM (h0: -1000000000<=i)(h1:i<=1000000000)(q:Q (v0 (toString i)) H):gM G .str [ut i] H Q:=by
 unfold gM;refine .inl ⟨i,rfl,?_,q⟩;rcases Nat.eq_zero_or_pos i.natAbs with e|e
 .rw[e];decide
 .exact nl ((Nat.log2_lt nofun).mpr (show i.natAbs<2 ^ 30 by omega)) (by decide)
def xl (q:Q (v0 z) H):gM G .str [v0 z] H Q:=by unfold gM;exact .inr ⟨z,rfl,q⟩
abbrev Sp.ws:Sp->List Str
 | .set b i=>["set",b.nm,toString i]
 | .add b i=>["add",b.nm,toString i]
 | .take b c=>["take",b.nm,c.nm]
 | .read b=>["read",b.nm]
 | .write b=>["write",b.nm]
def vH {f:Nat}(hk:1<=k)(ok:sp.ok)(hf:tab.me.lookup (sp.cl,("words":Str))=some f) (z:Sep O H) (p:au (sd R d sp) O Δ) (q:∀ p H',Sep (pt p (v6 (sp.ws.map v0))::O) H'->Q (ul p) H'):ae tab R k f [ul d] H Q E:=by
 obtain⟨dx,e⟩:=Ce z p;cases sp with
 |set n i=>
  have hf:some 9=some f:=hf;cases hf;delta f9;right;refine aA e rfl rfl rfl ?_;right;refine aA e rfl rfl rfl ?_;left;refine kM ok.1 ok.2 ?_;right;rename_i p H1 z1;exact q p H1 z1
 |add n i=>
  have hf:some 11=some f:=hf;cases hf;delta gA;right;refine aA e rfl rfl rfl ?_;right;refine aA e rfl rfl rfl ?_;left;refine kM ok.1 ok.2 ?_;right;rename_i p H1 z1;exact q p H1 z1
 |take n m=>
  have hf:some 13=some f:=hf;cases hf;delta fv;right;refine aA e rfl rfl rfl ?_;right;refine aA e rfl rfl rfl ?_;right;rename_i p H1 z1;exact q p H1 z1
 |read n=>
  have hf:some 15=some f:=hf;cases hf;delta fA;right;refine aA e rfl rfl rfl ?_;right;rename_i p H1 z1;exact q p H1 z1
 |write n=>
  have hf:some 17=some f:=hf;cases hf;delta dP;right;refine aA e rfl rfl rfl ?_;right;rename_i p H1 z1;exact q p H1 z1
abbrev vN (n:Int)(o:Option Int):List V:=match o with
 |none=>[v0 "hop",v0 (toString n)]
 |some i=>[v0 "hop",v0 (toString n),v0 "if",v0 (toString i)]
def fc (h:i.natAbs<=1000)(q:Q (v0 (toString i)) H):gM G .str [ut i] H Q:=by
 unfold gM;exact .inl ⟨i,rfl,Nat.lt_of_le_of_lt (Nat.log2_le_self _) nofun,q⟩
def sD (hk:1<=k)(h0:0<=n)(h1:n<=24)(ho:B7 o)(z:Sep O H)(p:au (B6 R d n o) O Δ)(q:∀ l H',Sep (pt l (v6 (vN n o))::O) H'->Q (ul l) H'):ae tab R k 21 [ul d] H Q E:=by
 delta gj;obtain⟨dx,e⟩:=yY z p;right;refine aA e rfl rfl rfl ?_;left;refine fc nofun ?_;right;rename_i l H1 z1;obtain⟨dx,e⟩:=yY z1 (.t p);refine aA e rfl rfl rfl ?_;right;refine pN ?_;cases o with
 |none=>
  left;refine ao (by decide) ?_;right;exact q l H1 z1
 |some i=>
  left;refine aQ rfl ?_;right;refine⟨l,_,rfl,z1.at,?_⟩;right;refine aA e rfl rfl rfl ?_;left;refine fc (by rcases ho with rfl|rfl<;>decide) ?_;right;rename_i l2 H2 z2;refine⟨_,z2.drop.at,?_⟩;unfold vU;refine⟨l2,_,rfl,z2.at,nw rfl,?_⟩;right;exact q l _ ((z2.pull .k1).set (o':=v6 (vN n (some i))) rfl |>.sub (.cons .e (.drop .refl)))
def rR (wd:Wd):∃ f,tab.me.lookup (wd.cl,("words":Str))=some f/\(∀ R Ψ,dflt ⟨tab,R,Ψ,true⟩ f 1=[])/\∀ {R:Rt}{k:Nat}{v:V}{O:List ai}{H:Hp}{Q:VK}{E:XK},1<=k->Sep O H->(∀ p H',Sep (pt p (v6 [v0 wd.s])::O) H'->Q (ul p) H')->ae tab R k f [v] H Q E:=by
 cases wd
 .exact⟨47,rfl,λ_ _=>rfl,λhk z q=>wc (d:=fB) nofun rfl rfl (by left;exact ay z (by decide) q)⟩
 .exact⟨48,rfl,λ_ _=>rfl,λhk z q=>wc (d:=fq) nofun rfl rfl (by left;exact ay z (by decide) q)⟩
 .exact⟨49,rfl,λ_ _=>rfl,λhk z q=>wc (d:=fM) nofun rfl rfl (by left;exact ay z (by decide) q)⟩
 .exact⟨50,rfl,λ_ _=>rfl,λhk z q=>wc (d:=dN) nofun rfl rfl (by left;exact ay z (by decide) q)⟩
 .exact⟨51,rfl,λ_ _=>rfl,λhk z q=>wc (d:=dH) nofun rfl rfl (by left;exact ay z (by decide) q)⟩
 .exact⟨52,rfl,λ_ _=>rfl,λhk z q=>wc (d:=eU) nofun rfl rfl (by left;exact ay z (by decide) q)⟩
abbrev Rw.wd:Rw->List V
 | .lg w=>[v0 w.s]
 | .sp s=>s.ws.map v0
 | .hop n o=>vN n o
def rf:∀ y ∈ vN n o,∃ t,tyName y H=some t:=by
 intro y hy;cases o<;>simp only[vN,lv,not_mem_nil,or_false]at hy
 .rcases hy with rfl|rfl<;>exact⟨"str",rfl⟩
 .rcases hy with rfl|rfl|rfl|rfl<;>exact⟨"str",rfl⟩
def Rw.yp (r:Rw):∀ y ∈ r.wd,∃ t,tyName y H=some t:=by
 cases r with
 |lg w=>intro y hy;rw[mem_singleton.mp hy];exact⟨"str",rfl⟩
 |sp s=>
  intro y hy;obtain⟨w,_,rfl⟩:=List.mem_map.mp hy;exact⟨"str",rfl⟩
 |hop n o=>exact rf
def uX (r:Rw)(ok:r.ok):∃ f,tab.me.lookup (r.cl,("words":Str))=some f/\(∀ Ψ,dflt ⟨tab,R,Ψ,true⟩ f 1=[])/\∀ {k:Nat}{de:Addr}{O Δ:List ai}{H:Hp}{Q:VK}{E:XK},1<=k->Sep O H->au (bS R de r) O Δ->(∀ p H',Sep (pt p (v6 r.wd)::O) H'->Q (ul p) H')->ae tab R k f [ul de] H Q E:=by
 cases r with
 |lg w=>
  obtain⟨f,h1,h2,h3⟩:=rR w;exact⟨f,h1,h2 R,λhk z p q=>h3 hk z q⟩
 |sp s=>
  obtain⟨f,hf⟩:∃ f,tab.me.lookup (s.cl,("words":Str))=some f:=by cases s<;>exact⟨_,rfl⟩
  exact⟨f,hf,λΨ=>by cases s<;>cases hf<;>rfl,λhk z p q=>vH hk ok hf z p q⟩
 |hop n o=>exact⟨21,rfl,λ_=>rfl,λhk z p q=>sD hk ok.1.1 ok.1.2 ok.2 z p q⟩
abbrev i9 (p:Addr×Rw):ai:=pt p.1 (v6 p.2.wd)
def xU {p1 p2:Addr}{L1 L2:List (Addr×Rw)}(e:L1.map (·.2)=L2.map (·.2))(h1:H p1=some (v6 (L1.map kn)))(h2:H p2=some (v6 (L2.map kn)))(g1:∀ p ∈ L1,H p.1=some (v6 p.2.wd)) (g2:∀ p ∈ L2,H p.1=some (v6 p.2.wd)):d8 R.K H 3 (ul p1) (ul p2) true:=by
 have hl:L1.length=L2.length:=by simpa using congrArg List.length e
 refine zI (n:=1) h1 h2 (by rw[ce,ce,hl]) λj x y e1 e2=>?_
 rw[io]at e1 e2;obtain⟨⟨a,r⟩,f1,rfl⟩:=mo.mp e1;obtain⟨⟨b,r2⟩,f2,rfl⟩:=mo.mp e2;have e3:=congrArg (λl=>l[j]?) e;simp only[io,f1,f2]at e3;obtain rfl:r=r2:=by simpa using e3
 exact uV (n:=0) (g1 _ (cr f1)) (g2 _ (cr f2)) (Rw.yp r)
def vj {L:List (Addr×Rw)}(z:Sep (L.reverse.map i9++O) H):∀ p ∈ L,H p.1=some (v6 p.2.wd):=λp hp=>by
 obtain⟨Δ,pp⟩:=mQ (f:=i9) (x:=p) (l:=L.reverse) (by simpa using hp);exact(z.pull (pp O)).at
def Sep.jO:∀ {L O:List ai}{H:Hp},Sep (L++O) H->Sep O H
 | [],_,_,z=>z
 |_::_,_,_,z=>Sep.jO z.drop
section
variable {B dx d1 d2:Addr}{kb:List (Key×V)}{cs:List (Str×Int)}{Nl:List (Str×List Itm)}{nb:Str->List Itm}{F G:List ai}{f n i:Nat}{v:V}{b:List Itm}
def n9 (ro:Ro K R)(hN:oM Nl nb (aJ cs))(hcs:∀ w ∈ Nl.map (·.1),w ∈ cs.map (·.1)) (hb:kb.map (·.1)=cg (cs.map (·.1))) (hf40:f<=40) (hk:3*f+12<=k) (hk3:3*n+6<=k) (hf:n+4*i<=f) (ok:cP ((Nl.take i).map (·.1)) n b) (im:k8 R F n v b) (bk:mW R F kb Nl) (z:Sep (aM R B dx d1 d2 kb cs (G++F)) H)
  (q:1<=aP (aJ cs) n b->aP (aJ cs) n b<=24->∀ l vs Δ H',aw (bJ (bS R) (Δ++F)) vs (aC nb f b)->Sep (pt l (v6 vs)::aM R B dx d1 d2 kb cs (G++(Δ++F))) H'->Q (ul l) H')
  (r:¬ (1<=aP (aJ cs) n b/\aP (aJ cs) n b<=24)->∀ e H',Sep (DT (R.cad 3) [("many",ut (aP (aJ cs) n b))] e false::aM R B dx d1 d2 kb cs (G++F)) H'->E e H'):ae tab R k 45 [ul B,v] H Q E:=by
 delta gu;left;refine⟨rfl,?_⟩;left;refine qY ro (k:=k-1) (n:=n) (ns:=(Nl.take i).map (·.1)) nofun hb (λw hw=>hcs w (by rw[map_take]at hw;exact List.mem_of_mem_take hw)) ok im z (λH1 z1=>?_);clear z;have fin:¬ (1<=aP (aJ cs) n b/\aP (aJ cs) n b<=24)->∀ e,H1 e=none->ae tab R (k-1) 2 [ul e,ut (aP (aJ cs) n b)] (upd H1 e (.exc (R.cad 3) none [] true)) (λu H2=>u=v4/\∃ a i dx fs,ul e=ul a/\H2 a=some (.exc (R.cad i) dx fs true)/\tab.xc.contains i=true/\E a (upd H2 a (.exc (R.cad i) dx fs false))) E:=λhno e he=>
  jb nofun (z1.new he) (λd H3 hs3=>⟨rfl,Al (G:=⟨tab,R,ae tab R k,true⟩) hs3 .e rfl (λH4 hs4=>r hno e H4 (CU hs4))⟩)
 left;refine bO (p:=1<=aP (aJ cs) n b) (λh1=>?_) (λh1=>?_)
 .left;simp only[ro.g_MOST_ROWS];left;refine zC (p:=aP (aJ cs) n b<=24) (λh2=>?_) (λh2=>?_)
  rotate_left
  .left;refine⟨rfl,?_⟩;left;exact Dq ro hN hcs f hf40 (k:=k-1) nofun hf ok im bk (by have:=dv hN hf ok;omega) z1 (q h1 h2)
  .right;exact fin λh=>h2 h.2
 .right;exact fin λh=>h1 h.1
noncomputable abbrev dR (R:Rt)(F:List ai)(v:V)(r:Rw):Prop:=∃ d,v=ul d/\bS R d r ∈ F
def AH (ro:Ro K R)(hN:oM Nl nb (aJ cs))(hcs:∀ w ∈ Nl.map (·.1),w ∈ cs.map (·.1)) (hb:kb.map (·.1)=cg (cs.map (·.1))) (hf40:f<=40) (hk:3*f+13<=k) (hk3:3*n+7<=k) (hf:n+4*i<=f) (ok:cP ((Nl.take i).map (·.1)) n b) (im:k8 R F n v b) (bk:mW R F kb Nl) (z:Sep (aM R B dx d1 d2 kb cs (G++F)) H)
  (q:1<=aP (aJ cs) n b->aP (aJ cs) n b<=24->∀ l vs Δ H',aw (dR R (Δ++F)) vs ((aC nb f b).map (·.2))->Sep (pt l (v6 vs)::aM R B dx d1 d2 kb cs (G++(Δ++F))) H'->Q (ul l) H')
  (r:¬ (1<=aP (aJ cs) n b/\aP (aJ cs) n b<=24)->∀ e H',Sep (DT (R.cad 3) [("many",ut (aP (aJ cs) n b))] e false::aM R B dx d1 d2 kb cs (G++F)) H'->E e H'):ae tab R k 46 [ul B,v] H Q E:=by
 delta uz;left;refine⟨rfl,?_⟩;left;refine⟨rfl,?_⟩;left;refine n9 ro hN hcs hb hf40 (k:=k-1) nofun nofun hf ok im bk z (λg1 g2 l vs Δ H1 a z1=>?_) r;have hl24:vs.length<=24:=by rw[a.1];have:=dv hN hf ok;omega
 left;refine i5 z1.at ?_;refine iH (xs:=vs) nofun (λD ys H=>aw (dR R (Δ++F)) ys (((aC nb f b).map (·.2)).take ys.length)/\Sep (pt D (v6 ys)::pt l (v6 vs)::aM R B dx d1 d2 kb cs (G++(Δ++F))) H) (λD ys H ⟨_,z⟩=>aF.of (z.get .k1)) (λD hD=>⟨.nil,z1.new (o:=v6 []) hD⟩) (λD ys x H hx hI=>?_) (λD ys H hl2 hI=>?_)
 .obtain⟨a1,z2⟩:=hI;obtain⟨p,hp1,T,P,d,rfl,m1,m2,m3⟩:=a.get hx;have hyl:=(ss.mp hx).1;refine⟨T,ul P,ul d,rfl,bF.of (fO (G:=_::_::_::_::_::G) (F:=Δ++F) m1 z2),?_⟩;left;refine lx.mk z2.at nofun ⟨?_,z2.set rfl⟩;have e:((aC nb f b).map (·.2))[ys.length]? =some p.2:=by rw[io,hp1];rfl
  rw[ci,f8,take_succ,e];exact a1.snoc ⟨d,rfl,m3⟩
 .obtain⟨a1,z2⟩:=hI;rw[hl2,a.1,take_of_length_le (by rw[ce];exact pi _)]at a1;exact q g1 g2 D ys Δ H a1 ((z2.pull .k1).drop)
end
section
variable {B dx d1 d2:Addr}{kb:List (Key×V)}{cs:List (Str×Int)}{Nl:List (Str×List Itm)}{nb:Str->List Itm}{F G:List ai}{f n i:Nat}{v:V}{b:List Itm}
noncomputable abbrev DH (P T:Addr)(L:List (Addr×Rw))(O:List ai):List ai:=pt T (wf [v0 "told",ul P])::pt P (v6 (L.map kn))::(L.reverse.map i9++O)
def qr (ro:Ro K R)(hN:oM Nl nb (aJ cs))(hcs:∀ w ∈ Nl.map (·.1),w ∈ cs.map (·.1)) (hb:kb.map (·.1)=cg (cs.map (·.1))) (hf40:f<=40) (hk:3*f+15<=k) (hk3:3*n+10<=k) (hf:n+4*i<=f) (ok:cP ((Nl.take i).map (·.1)) n b) (sp:gb F n v b) (bk:mW R F kb Nl) (z:Sep (aM R B dx d1 d2 kb cs (G++F)) H)
  (q:1<=aP (aJ cs) n b->aP (aJ cs) n b<=24->∀ T P L Δ H',L.map (·.2)=(aC nb f b).map (·.2)->Sep (DH P T L (aM R B dx d1 d2 kb cs (G++(Δ++F)))) H'->Q (ul T) H')
  (r:¬ (1<=aP (aJ cs) n b/\aP (aJ cs) n b<=24)->∀ T Δ H',Sep (pt T (wf [v0 "refused",ut (aP (aJ cs) n b)])::aM R B dx d1 d2 kb cs (G++(Δ++F))) H'->Q (ul T) H'):ae tab R k 71 [ul B,v] H Q E:=by
 delta gw;left
 iterate 3 (refine⟨rfl,?_⟩;left)
 refine u0 ro n (k:=k-1) (F:=F) (G:=[_,_,_]++G) nofun ok sp z (λl Δ H1 im z1=>?_);clear z;left;refine AH ro hN hcs hb hf40 (k:=k-1) (n:=n) (i:=i) (F:=Δ++F) nofun nofun hf ok im (bk.mono λA=>aa) z1 (λg1 g2 l vs Δ1 H2 a z2=>?_) (λhno e H2 z2=>?_)
 .have hlen:vs.length<=24:=by rw[a.1,ce];have:=dv hN hf ok;omega
  have okr:∀ r ∈ (aC nb f b).map (·.2),Rw.ok r:=λr hr=>by
   obtain⟨p,hp,rfl⟩:=List.mem_map.mp hr;refine eg (λx hx hl=>yJ (ns:=[]) hN hf (ok.2 x hx) hl) ?_ p hp;have:=dv hN hf ok;show(aC nb f b).length<=24
   omega
  left;refine jq (E0 z2.at) rfl ?_;left;refine ao rfl ?_;left;refine⟨rfl,?_⟩;left;refine i5 z2.at ?_;refine jZ (xs:=vs) nofun (λD ys H=>∃ L:List (Addr×Rw),ys=L.map kn/\L.map (·.2)=((aC nb f b).map (·.2)).take ys.length/\Sep (pt D (v6 ys)::(L.reverse.map i9++pt l (v6 vs)::aM R B dx d1 d2 kb cs (G++(Δ1++(Δ++F))))) H) (λD ys H hI=>?_) (λD hD=>⟨[],rfl,rfl,z2.new (o:=v6 []) hD⟩) (λD ys y H hy hI=>?_) (λD ys H hl2 hI=>?_)
  .obtain⟨L,_,_,hs⟩:=hI;exact aF.of (hs.get (.t (az .e)))
  .obtain⟨L,e,e2,z6⟩:=hI;obtain⟨r,er,d,rfl,m⟩:=a.get hy;have hyl:=(ss.mp hy).1;obtain⟨fn,h1,h2,h3⟩:=uX (R:=R) r (okr _ (cr er));obtain⟨Δ2,pl⟩:=dC m;have pp:au (bS R d r) (pt D (v6 ys)::(L.reverse.map i9++pt l (v6 vs)::aM R B dx d1 d2 kb cs (G++(Δ1++(Δ++F))))) (pt D (v6 ys)::(L.reverse.map i9++pt l (v6 vs)::aM R B dx d1 d2 kb cs (G++Δ2))):=.t (az (.t (.j2 (.t (az pl)))));right;refine v7 (yA r) z6 pp ?_ h1 ?_
   .cases r with
    |lg w=>rfl
    |sp s=>cases s<;>rfl
    |hop n o=>rfl
   left;refine iw (vs':=[ul d]) (by show _::([]++dflt _ _ 1)=_;rw[h2];rfl) ?_;refine h3 nofun z6 pp (λp H7 z7=>?_);have z8:=(z7.pull (A:=pt D (v6 ys)) .k1).set (o':=v6 (ys++[ul p])) rfl;refine jL.mk (z7.get .k1) nofun ⟨L++[(p,r)],by rw[e];simp[kn],?_,?_⟩
   .rw[dL,e2,ci,f8,take_succ,er]
    rfl
   .rw[List.reverse_append,dL,le];exact z8
  .obtain⟨L,rfl,e2,z6⟩:=hI;rw[hl2,a.1,take_of_length_le (pi _)]at e2;left;refine⟨l,vs,rfl,z6.get (.t (az .e)),?_⟩;left;refine⟨vs,z6.get (.t (az .e)),?_⟩;have z7:Sep (pt l (v6 vs)::pt D (v6 (L.map kn))::(L.reverse.map i9++aM R B dx d1 d2 kb cs (G++(Δ1++(Δ++F))))) H:=z6.pull (.t (az .e));refine Cr z7 .e (λH8 z8=>?_);left;refine bq z8.drop (by show 2<=10000;omega) (λT H9 z9=>?_);refine q g1 g2 T D L (Δ1++Δ) H9 e2 ?_;rw[le];exact z9
 .obtain⟨d,z3⟩:=C2 z2;left;refine⟨3,_,_,true,z3.at,rfl,rfl,?_⟩;right;rename_i T H3 z4;exact r hno T Δ H3 (z4.sub (.cons .e (.drop (.drop .refl))))
end
def ug {n:Nat}(h:n<=xs.length):ft xs (some (n:Int)) none=xs.drop n:=by
 unfold ft;show(xs.drop (if(n:Int)<0 then((n:Int)+(xs.length:Int)).toNat else min (n:Int).toNat xs.length)).take (xs.length-(if(n:Int)<0 then((n:Int)+(xs.length:Int)).toNat else min (n:Int).toNat xs.length))=_;rw[if_neg nofun,re,Nat.min_eq_left h];exact take_of_length_le (by rw[jp];omega)
abbrev F9 (v:V)(w:Str):Prop:=v=v0 w\/∃ i,v=ut i/\(-1000000000<=i/\i<=1000000000)/\w=toString i
def xm (r:Rw)(ok:r.ok):(∃ n o,r=.hop n o)\/∃ s rest ws,r.tl=v0 s::rest/\gF (v0 s) (v0 "hop")=false/\aw F9 rest ws/\rest.length<=3/\r.wd=v0 s::ws.map v0:=by
 cases r with
 |lg w=>exact .inr ⟨w.s,[],[],rfl,by cases w<;>decide+kernel,.nil,by decide,rfl⟩
 |hop n o=>exact .inl ⟨n,o,rfl⟩
 |sp s=>
  refine .inr ?_;cases s with
  |set b i=>exact⟨"set",[v0 b.nm,ut i],[b.nm,toString i],rfl,by decide+kernel,aw.cons (α:=Str) (.inl rfl) (aw.cons (α:=Str) (.inr ⟨i,rfl,ok,rfl⟩) .nil),by show 2<=3;omega,rfl⟩
  |add b i=>exact⟨"add",[v0 b.nm,ut i],[b.nm,toString i],rfl,by decide+kernel,aw.cons (α:=Str) (.inl rfl) (aw.cons (α:=Str) (.inr ⟨i,rfl,ok,rfl⟩) .nil),by show 2<=3;omega,rfl⟩
  |take b c=>exact⟨"take",[v0 b.nm,v0 c.nm],[b.nm,c.nm],rfl,by decide+kernel,aw.cons (α:=Str) (.inl rfl) (aw.cons (α:=Str) (.inl rfl) .nil),by show 2<=3;omega,rfl⟩
  |read b=>exact⟨"read",[v0 b.nm],[b.nm],rfl,by decide+kernel,aw.cons (α:=Str) (.inl rfl) .nil,by show 1<=3;omega,rfl⟩
  |write b=>exact⟨"write",[v0 b.nm],[b.nm],rfl,by decide+kernel,aw.cons (α:=Str) (.inl rfl) .nil,by show 1<=3;omega,rfl⟩
def tE {t:Addr}{r:Rw}(hk:1<=k)(ok:r.ok)(e:H t=some (wf r.tl))(z:Sep O H)(q:∀ p H',Sep (pt p (v6 r.wd)::O) H'->Q (ul p) H'):ae tab R k 70 [ul t] H Q E:=by
 delta cE;have z:=Sep.rW e z;rcases xm r ok with⟨n,o,rfl⟩|⟨s,rest,ws,er,h1,a,hl,ew⟩
 .obtain⟨⟨n0,n1⟩,ho⟩:=ok;have z:Sep (tu t [v0 "hop",ut n,oV o]::O) H:=z;left;refine aj z.atT rfl ?_;left;refine bz rfl rfl ?_;left;refine aQ (by decide+kernel) ?_;left;refine aj z.atT rfl ?_;left;refine pN ?_;cases o with
  |none=>
   left;refine ao (by decide) ?_;left;refine aj z.atT rfl ?_;left;refine bz rfl rfl ?_;left;refine aQ (by decide+kernel) ?_;left;refine aj z.atT rfl ?_;left;refine fc nofun ?_;left;exact ay z.drop (by show 2<=10000;omega) q
  |some i=>
   left;refine aQ rfl ?_;left;refine aj z.atT rfl ?_;left;refine fc nofun ?_;left;refine aj z.atT rfl ?_;left;refine fc (by rcases ho with rfl|rfl<;>decide) ?_;left;exact ay z.drop (by show 4<=10000;omega) q
 .rw[er]at z;rw[ew]at q;left;refine aj z.atT nu ?_;left;refine bz rfl rfl ?_;left;refine ao h1 ?_;left;refine ao rfl ?_;left;refine aj z.atT nu ?_;left;refine bz rfl rfl ?_;left;refine ao h1 ?_;left;refine aj z.atT nu ?_;left;refine ay z (by show 1<=10000;omega) (λp1 H1 z1=>?_);left;refine⟨rfl,?_⟩;left;have hlen:rest.length<=3:=hl;refine ER z1 (z1.Ag .k1) (λh=>?_) (λp2 H2 z2=>?_)
  .have h0:(if(1:Int)<0 then((1:Int)+((rest.length+1:Nat):Int)).toNat else min (1:Int).toNat (rest.length+1))=0:=h.1;rw[if_neg nofun]at h0;have:min (1:Int).toNat (rest.length+1)=1:=by show min 1 (rest.length+1)=1;omega
   omega
  have ec:ft (v0 s::rest) (some 1) none=rest:=ug (xs:=v0 s::rest) (n:=1) (by show 1<=rest.length+1;omega);rw[ec]at z2;left;refine ES z2.at ?_;refine Bo (xs:=rest) nofun (λD ys H=>ys=(ws.take ys.length).map v0/\Sep (pt D (v6 ys)::pt p2 (wf rest)::pt p1 (v6 [v0 s])::tu t (v0 s::rest)::O) H) (λD ys H ⟨_,z⟩=>bF.of (z.get .k1)) (λD hD=>⟨rfl,z2.new (o:=v6 []) hD⟩) (λD ys x H hx hI=>?_) (λD ys H hl2 hI=>?_)
  .obtain⟨ey,z3⟩:=hI;obtain⟨w,hw,pw⟩:=a.get hx;have hyl:=(ss.mp hx).1;have fin:jL (λD ys H=>ys=(ws.take ys.length).map v0/\Sep (pt D (v6 ys)::pt p2 (wf rest)::pt p1 (v6 [v0 s])::tu t (v0 s::rest)::O) H) D ys (c6 (L2.start cE.N [ul t]) []) (some x) (v0 w) H:=by
    refine jL.mk z3.at nofun ⟨?_,z3.set rfl⟩;rw[ci,f8,take_succ,hw,dL,<-ey]
    rfl
   rcases pw with rfl|⟨i,rfl,hi,rfl⟩
   .left;exact xl fin
   .left;exact kM hi.1 hi.2 fin
  .obtain⟨ey,z3⟩:=hI;rw[hl2,a.1,take_of_length_le (pi _)]at ey;subst ey;left;refine cB z3 (z3.get .k2) z3.at (by rw[ce,<-a.1];show 1+rest.length<=100000;omega) (λp3 H4 z4=>?_);exact q p3 H4 (z4.sub (.cons .e (.drop (.drop (.drop (.drop .refl))))))
section
variable {F:List ai}{h nd cd bl wl B dx d1 d2:Addr}{o:Obj}{kvs kb:List (Key×V)}{cs:List (Str×Int)}{N:List (Str×List Itm)}{m:Int}
abbrev bD (F:List ai)(ns:List Str)(ls:List V):Prop:=∀ v ∈ ls,∃ b,gb F 3 v b/\cP ns 3 b
def bD.mono (hh:bD F ns ls)(up:∀ A ∈ F,A ∈ F'):bD F' ns ls:=λv hv=>let⟨b,s,ok⟩:=hh v hv;⟨b,gb.mono up s,ok⟩
def bD.app {ls':List V}(h1:bD F ns ls)(h2:bD F ns ls'):bD F ns (ls++ls'):=λv hv=>(mem_append.mp hv).elim (h1 v) (h2 v)
def bD.one (s:gb F 3 v b)(ok:cP ns 3 b):bD F ns [v]:=λx hx=>by rw[mem_singleton.mp hx];exact⟨b,s,ok⟩
noncomputable abbrev DS (R:Rt)(h nd cd bl B dx d1 d2:Addr)(o:Obj)(kvs kb:List (Key×V))(cs:List (Str×Int))(m:Int)(ls:List V)(O:List ai):List ai:=hand h m::aM R B dx d1 d2 kb cs (pt cd (.dK (bA cs))::pt nd (.aH o (.dK kvs))::pt bl (v6 ls)::O)
abbrev vd (R:Rt)(h nd cd bl B dx d1 d2:Addr)(o:Obj)(kvs kb:List (Key×V))(cs:List (Str×Int))(F:List ai)(m:Int)(sc:V)(il:Addr)(n0:Nat)(j:Nat)(U:St)(H:Hp):Prop:=∃ u7 u8,U=[some sc,some (ul h),some (ul nd),some (ul B),some (ul cd),some (ul bl),some (ul il),u7,u8,none,none,none]/\
 ∃ ls Δ,ls.length=n0+j/\bD (Δ++F) (cs.map (·.1)) ls/\Sep (DS R h nd cd bl B dx d1 d2 o kvs kb cs (m+(j:Int)*1000000001) ls (Δ++F)) H
def A1 {E:St->XK}{sc:V}{il:Addr}{n0:Nat}{j:Nat}(ro:Ro K R)(hk:18<=k)(hj:j<8)(hn0:n0<=10)(hm:m<=2000000000)(hkeys:kvs.map (λkv=>kV kv.1)=(cs.map (·.1)).map v0) (hcl:cs.length<=5) (hI:vd R h nd cd bl B dx d1 d2 o kvs kb cs F m sc il n0 j U H) (q:∀ σ' H',vd R h nd cd bl B dx d1 d2 o kvs kb cs F m sc il n0 (j+1) σ' H'->D.nx σ' H'):
  wB (n5 (b6 7 jK.body)) ⟨tab,R,ae tab R (k-1),true⟩ D E (U.set 7 (some (ut (0+(j:Int))))) H:=by
 have hb3:eB 3=1000000000:=by decide
 obtain⟨u7,u8,rfl,ls,Δ,hll,hh,z⟩:=hI;walk_at "gd";rename_i p H1 z1 r H2 r0 r1 z2;obtain⟨v,e1,i,rfl,i0,i1⟩:=lY (xs:=[ut 1,ut 3,ut 6,ut 24]) (P:=inR 0 29) (r:=r) r0 (by simpa using r1) (Ft (.mk nofun nofun) (.mk nofun nofun) (.mk nofun nofun) (.mk nofun nofun));refine c8 (z2.get .k1) e1 ?_;have z3:=(z2.pull .k1).drop;clear z z1 z2;left;refine⟨bl,ls,rfl,z3.get (.j2 (.j2 (.j2 .e))),?_⟩;left;refine⟨rfl,?_⟩;left;refine fe rfl z3 (.inr ⟨o,z3.get (.t (.j2 (.j2 .e)))⟩) (λT H3 z4=>?_);rw[hkeys]at z4;left;have z5:Sep (hand h (m+(j:Int)*1000000001+1)::pt T (v6 ((cs.map (·.1)).map v0))::(aM R B dx d1 d2 kb cs [pt cd (.dK (bA cs)),pt nd (.aH o (.dK kvs)),pt bl (v6 ls)]++(Δ++F))) H3:=z4.pull .k1;refine jV ro 3 (k:=k-1) nofun ⟨by omega,by omega⟩ (by rw[hb3];omega) (by rw[ce];omega) z5 (λl b Δ1 H4 ok hlb s z6=>?_);rw[hb3]at z6;have z6:Sep (hand h (m+(j:Int)*1000000001+1+1000000000)::aM R B dx d1 d2 kb cs (pt cd (.dK (bA cs))::pt nd (.aH o (.dK kvs))::pt bl (v6 ls)::(Δ1++(Δ++F)))) H4:=(z6.pull .k1).drop;left;refine⟨ls,z6.get (.j2 (.j2 (.j2 .e))),lO z6 (.j2 (.j2 (.j2 .e))) nofun (λH6 z9=>?_)⟩;left;refine q _ _ ⟨_,_,rfl,ls++[ul l],Δ1++Δ,by rw[ci,hll];rfl,?_,?_⟩
 .rw[le];exact(hh.mono λA=>aa).app (.one s ok)
 .have e1:m+((j+1:Nat):Int)*1000000001=m+(j:Int)*1000000001+1+1000000000:=by omega
  rw[e1,le];exact z9
def zG {rs:List (List Int×Rw)}{G:List ai}(hk:1<=k)(hl:vs.length<=24)(okr:∀ p ∈ rs,Rw.ok p.2) (a:aw (bJ se F) vs rs) (z:Sep (pt l (v6 vs)::(G++F)) H)
  (hte:∀ {v1 v2:V}{H:Hp}{Q:VK},ae tab R k 70 [v2] H Q (λ_ _=>False)->te (some v1::some v2::rest) H Q)
  (q:∀ p (L:List (Addr×Rw)) H',L.map (·.2)=rs.map (·.2)->Sep (pt p (v6 (L.map kn))::(L.reverse.map i9++pt l (v6 vs)::(G++F))) H'->Q (ul p) H'):LCt R.K 2 te (xR R.K l) (none::none::rest) H Q:=by
 refine iH (xs:=vs) nofun (λD ys H=>∃ L:List (Addr×Rw),ys=L.map kn/\L.map (·.2)=(rs.map (·.2)).take ys.length/\Sep (pt D (v6 ys)::(L.reverse.map i9++pt l (v6 vs)::(G++F))) H) (λD ys H hI=>?_) (λD hD=>⟨[],rfl,rfl,z.new (o:=v6 []) hD⟩) (λD ys x H hx hI=>?_) (λD ys H hl2 hI=>?_)
 .obtain⟨L,_,_,hs⟩:=hI;exact aF.of (hs.get (.t (az .e)))
 .obtain⟨L,e,e2,z6⟩:=hI;obtain⟨p,hp1,T,P,d,rfl,m1,m2,m3⟩:=a.get hx;have hyl:=(ss.mp hx).1;have zF:Sep ((pt D (v6 ys)::(L.reverse.map i9++pt l (v6 vs)::G))++F) H:=by
   rw[cons_append,le,cons_append];exact z6
  refine⟨T,ul P,ul d,rfl,bF.of (fO m1 zF),hte ?_⟩;refine tE hk (okr p (cr hp1)) (fO m3 zF) z6 (λp2 H7 z7=>?_);have z8:=(z7.pull (A:=pt D (v6 ys)) .k1).set (o':=v6 (ys++[ul p2])) rfl;refine lx.mk (z7.get .k1) nofun ⟨L++[(p2,p.2)],by rw[e];simp[kn],?_,?_⟩
  .have er:(rs.map (·.2))[ys.length]? =some p.2:=by rw[io,hp1];rfl
   rw[dL,e2,ci,f8,take_succ,er]
   rfl
  .rw[List.reverse_append,dL,le];exact z8
 .obtain⟨L,rfl,e2,z6⟩:=hI;rw[hl2,a.1,take_of_length_le (by rw[ce];exact pi _)]at e2;exact q D L H e2 z6
noncomputable abbrev B2 (R:Rt)(nd cd wl B dx d1 d2:Addr)(o:Obj)(kvs kb:List (Key×V))(cs:List (Str×Int))(ls:List V)(O:List ai):List ai:=aM R B dx d1 d2 kb cs (pt cd (.dK (bA cs))::pt nd (.aH o (.dK kvs))::pt wl (v6 ls)::O)
def xx {T1 T2 P1 P2:Addr}{L1 L2:List (Addr×Rw)}(e:L1.map (·.2)=L2.map (·.2))(z:Sep (pt T1 (wf [v0 "told",ul P1])::pt P1 (v6 (L1.map kn))::(L1.reverse.map i9++(pt T2 (wf [v0 "told",ul P2])::pt P2 (v6 (L2.map kn))::(L2.reverse.map i9++O)))) H) (q:Q (.bl false) H):cQ R.K true (ul T1) (ul T2) H Q:=by
 have z2:Sep (L1.reverse.map i9++(pt T2 (wf [v0 "told",ul P2])::pt P2 (v6 (L2.map kn))::(L2.reverse.map i9++O))) H:=z.drop.drop;refine kY (n:=4) (vm (n:=2) z.at (Sep.jO z2).at rfl λj x y h1 h2=>?_) (by decide) ((z.pull (.t (.t (az .e)))).ne.symm) q;rcases j with _|_|j
 .cases h1;cases h2;exact .flat (x:=v0 "told") (y:=v0 "told") rfl rfl
 .cases h1;cases h2;exact xU e (z.get .k1) (Sep.jO z2).drop.at (vj z.drop.drop) (vj (Sep.jO z2).drop.drop)
 .cases h1
def Bg {T1 T2:Addr}(z:Sep (pt T1 (wf [v0 "refused",ut i])::pt T2 (wf [v0 "refused",ut i])::O) H) (q:Q (.bl false) H):cQ R.K true (ul T1) (ul T2) H Q:=by
 refine kY (n:=2) (vm (n:=0) z.at z.drop.at rfl λj x y h1 h2=>?_) (by decide) z.ne q;rcases j with _|_|j
 .cases h1;cases h2;exact .flat (x:=v0 "refused") (y:=v0 "refused") rfl rfl
 .cases h1;cases h2;have:=d8.flat (K:=R.K) (H:=H) (n:=1) (x:=ut i) (y:=ut i) rfl rfl
  rwa [iz rfl]at this
 .cases h1
end
section
variable {F:List ai}{h nd cd bl il wl B dx d1 d2:Addr}{o:Obj}{kvs kb:List (Key×V)}{cs:List (Str×Int)}{N:List (Str×List Itm)}{nb:Str->List Itm}{m:Int}
abbrev AF (R:Rt)(h nd cd bl il wl B dx d1 d2:Addr)(o:Obj)(kvs kb:List (Key×V))(cs:List (Str×Int))(ls:List V)(F:List ai)(sc:V)(u7 u8:Option V)(U:St)(H:Hp):Prop:=∃ u9 u10 u11,U=[some sc,some (ul h),some (ul nd),some (ul B),some (ul cd),some (ul bl),some (ul il),u7,u8,u9,u10,u11]/\∃ Δ,Sep (B2 R nd cd wl B dx d1 d2 o kvs kb cs ls (Δ++F)) H
def wx {E:St->XK}{sc:V}{u7 u8:Option V}{x:V}(ro:Ro K R)(hk:90<=k)(hO:oM N nb (aJ cs))(hcn:cs.map (·.1)=N.map (·.1))(h5:N.length<=5)(hkb:kb.map (·.1)=cg (cs.map (·.1)))(bk:mW R F kb N)(nk:zc F kvs N)(ok:cP (cs.map (·.1)) 3 b)(sp:gb F 3 x b)(hI:AF R h nd cd bl il wl B dx d1 d2 o kvs kb cs ls F sc u7 u8 U H)(q:∀ σ' H',AF R h nd cd bl il wl B dx d1 d2 o kvs kb cs ls F sc u7 u8 σ' H'->D.nx σ' H'):
  wB (n5 (b6 8 jK.body)) ⟨tab,R,ae tab R (k-1),true⟩ D E (U.set 9 (some x)) H:=by
 obtain⟨u9,u10,u11,rfl,Δ,z⟩:=hI;have hf:3+4*N.length<=23:=by omega
 have ok':cP ((N.take N.length).map (·.1)) 3 b:=by rw[List.take_length,<-hcn];exact ok
 have hlen:=dv hO hf ok';have sp1:gb (Δ++F) 3 x b:=gb.mono (λA=>aa) sp;have bk1:mW R (Δ++F) kb N:=bk.mono λA=>aa
 left;refine⟨rfl,?_⟩;left;have z1:Sep (pt cd (.dK (bA cs))::([pt B (wn (R.cad 14) dx [("blocks",ul d1),("counts",ul d2)]),pt d1 (.dK kb),pt d2 (.dK (bA cs)),pt nd (.aH o (.dK kvs)),pt wl (v6 ls)]++(Δ++F))) H:=z.pull .k3;refine tS ro (λw h=>h) 3 (k:=k-1) nofun ok sp1 z1 (λH1 z2=>?_);clear z z1;left;refine bq z2 (by show 2<=10000;omega) (λT1 H2 z3=>?_);left;have no:∀ {H:Hp},¬ (1<=aP (aJ cs) 3 b/\aP (aJ cs) 3 b<=24)->Sep (pt T1 (wf [v0 "refused",ut (aP (aJ cs) 3 b)])::B2 R nd cd wl B dx d1 d2 o kvs kb cs ls (Δ++F)) H->wB (b6 3 (n5 (b6 8 jK.body))) ⟨tab,R,ae tab R (k-1),true⟩ D E [some sc,some (ul h),some (ul nd),some (ul B),some (ul cd),some (ul bl),some (ul il),u7,u8,some x,some (ut (aP (aJ cs) 3 b)),some (ul T1)] H:=by
  intro H hno z;have z4:Sep (aM R B dx d1 d2 kb cs ([pt T1 (wf [v0 "refused",ut (aP (aJ cs) 3 b)]),pt cd (.dK (bA cs)),pt nd (.aH o (.dK kvs)),pt wl (v6 ls)]++(Δ++F))) H:=z.sub (.cons .k1 (.cons .k1 (.cons .k1 .refl)));left;refine⟨rfl,?_⟩;left;refine qr ro hO (λw hw=>by rw[hcn];exact hw) hkb (k:=k-1) (f:=23) nofun nofun nofun hf ok' sp1 bk1 z4 (λg1 g2=>absurd ⟨g1,g2⟩ hno) (λ_ T Δ2 H5 z5=>?_);have z6:Sep (pt T (wf [v0 "refused",ut (aP (aJ cs) 3 b)])::pt T1 (wf [v0 "refused",ut (aP (aJ cs) 3 b)])::B2 R nd cd wl B dx d1 d2 o kvs kb cs ls (Δ2++(Δ++F))) H5:=z5.sub (.cons .e (.cons .k3 (.cons .e (.cons .e (.cons .e .refl)))));left;refine Bg z6 ?_;left;refine ao rfl ?_;left;refine q _ _ ⟨_,_,_,rfl,Δ2++Δ,?_⟩;rw[le];exact z6.drop.drop
 have z4:Sep (pt T1 (wf [v0 "refused",ut (aP (aJ cs) 3 b)])::B2 R nd cd wl B dx d1 d2 o kvs kb cs ls (Δ++F)) H2:=z3.sub (.cons .e (.cons .k1 (.cons .k1 (.cons .k1 .refl))));refine bO (p:=1<=aP (aJ cs) 3 b) (λg1=>?_) (λg1=>?_)
 rotate_left
 .left;refine ao rfl ?_;exact no (λg=>g1 g.1) z4
 left;refine bO (p:=aP (aJ cs) 3 b<=24) (λg2=>?_) (λg2=>?_)
 rotate_left
 .exact no (λg=>g2 g.2) z4
 clear no;have okr:∀ p ∈ aC nb 23 b,Rw.ok p.2:=eg (λy hy hl=>yJ (ns:=[]) hO hf (ok'.2 y hy) hl) (by show(aC nb 23 b).length<=24;omega);have z5:Sep (pt nd (.aH o (.dK kvs))::([pt B (wn (R.cad 14) dx [("blocks",ul d1),("counts",ul d2)]),pt d1 (.dK kb),pt d2 (.dK (bA cs)),pt cd (.dK (bA cs)),pt wl (v6 ls)]++(Δ++F))) H2:=z4.drop.pull (.j2 (.j2 .e));clear z2 z3 z4;left
 iterate 2 (refine⟨rfl,?_⟩;left)
 refine Cd ro hO 23 nofun (k:=k-1) nofun hf ok' sp1 (nk.mono λA=>aa) nofun z5 (λl vs Δ2 H5 a z6=>?_);left;refine i5 z6.at ?_;refine zG (k:=k-1) (F:=Δ2++(Δ++F)) (G:=[_,_,_,_,_,_]) (rs:=aC nb 23 b) nofun (by rw[a.1];omega) okr a z6 (λh=>⟨rfl,h⟩) (λP2 L2 H6 e2 z7=>?_);left;refine bq z7 (by show 2<=10000;omega) (λT2 H7 z8=>?_);have z9:Sep (aM R B dx d1 d2 kb cs ((pt cd (.dK (bA cs))::pt nd (.aH o (.dK kvs))::pt wl (v6 ls)::(pt T2 (wf [v0 "told",ul P2])::pt P2 (v6 (L2.map kn))::L2.reverse.map i9))++(Δ2++(Δ++F)))) H7:=by
  have z10:=Sep.mv (P:=[]) (Δ:=pt T2 (wf [v0 "told",ul P2])::pt P2 (v6 (L2.map kn))::L2.reverse.map i9) (L:=[pt l (v6 vs),pt nd (.aH o (.dK kvs)),pt B (wn (R.cad 14) dx [("blocks",ul d1),("counts",ul d2)]),pt d1 (.dK kb),pt d2 (.dK (bA cs)),pt cd (.dK (bA cs)),pt wl (v6 ls)]) (O:=Δ2++(Δ++F)) (H:=H7) z8;have z11:Sep (pt l (v6 vs)::pt nd (.aH o (.dK kvs))::pt B (wn (R.cad 14) dx [("blocks",ul d1),("counts",ul d2)])::pt d1 (.dK kb)::pt d2 (.dK (bA cs))::pt cd (.dK (bA cs))::pt wl (v6 ls)::((pt T2 (wf [v0 "told",ul P2])::pt P2 (v6 (L2.map kn))::L2.reverse.map i9)++(Δ2++(Δ++F)))) H7:=z10;exact z11.sub (.cons .k2 (.cons .k2 (.cons .k2 (.cons .k2 (.cons .k1 (.cons .k1 (.drop .refl)))))))
 clear z5 z6 z7 z8;left;refine⟨rfl,?_⟩;left;refine qr ro hO (λw hw=>by rw[hcn];exact hw) hkb (k:=k-1) (f:=23) (F:=Δ2++(Δ++F)) nofun nofun nofun hf ok' (gb.mono (λA=>aa) sp1) (bk1.mono λA=>aa) z9 (λ_ _ T P L Δ3 H8 e1 z10=>?_) (λhno=>absurd ⟨g1,g2⟩ hno);have z11:Sep ((pt T (wf [v0 "told",ul P])::pt P (v6 (L.map kn))::L.reverse.map i9)++((pt T2 (wf [v0 "told",ul P2])::pt P2 (v6 (L2.map kn))::L2.reverse.map i9)++B2 R nd cd wl B dx d1 d2 o kvs kb cs ls (Δ3++(Δ2++(Δ++F))))) H8:=Sep.mv (P:=pt T (wf [v0 "told",ul P])::pt P (v6 (L.map kn))::L.reverse.map i9) (Δ:=[pt B (wn (R.cad 14) dx [("blocks",ul d1),("counts",ul d2)]),pt d1 (.dK kb),pt d2 (.dK (bA cs)),pt cd (.dK (bA cs)),pt nd (.aH o (.dK kvs)),pt wl (v6 ls)]) (L:=pt T2 (wf [v0 "told",ul P2])::pt P2 (v6 (L2.map kn))::L2.reverse.map i9) (O:=Δ3++(Δ2++(Δ++F))) z10;left;refine xx (e1.trans e2.symm) z11 ?_;left;refine ao rfl ?_;left;refine q _ _ ⟨_,_,_,rfl,Δ3++(Δ2++Δ),?_⟩;rw[le,le];exact Sep.jO (Sep.jO z11)
end
def Ak (ro:Ro K R)(hk:90<=k):∀ vs H Q E,gm K 63 vs H Q E->ae tab R k 72 vs H Q E:=by
 rintro vs H Q E ⟨a,sc,rfl,hS,h63,hQ⟩;delta jK;right;rw[<-ro.hK]at hS;refine A6 nofun Sep.nil hS h63 (λh H1 z1=>?_);left;refine⟨rfl,?_⟩;left;refine sL ro (k:=k-1) (G:=[]) (F:=[]) nofun (by decide) (by decide) (by decide) z1 (λnd kvs N Δ H2 hR hn h5 z2=>?_);left;refine⟨rfl,?_⟩;left;refine w6 ro (k:=k-1) (G:=[hand h (0+100000000)]) (F:=Δ++[]) nofun hR hn h5 (z2.pull .k1) (λB dx d1 d2 kb o Δ1 H3 hkb hB z3=>?_);left;refine⟨rfl,?_⟩;left;have hcn:=bN N;have hO:=AE hR hn;have hkb:kb.map (·.1)=cg ((bt N).map (·.1)):=by rw[hcn];exact hkb
 have hR:=hR.mono (F':=Δ1++(Δ++[])) (λA=>aa);have hNk:=zM hR hn;refine qE ro (k:=k-1) (G:=[pt B (wn (R.cad 14) dx [("blocks",ul d1),("counts",ul d2)]),pt d1 (.dK kb),pt d2 (.dK (bA (bt N))),hand h (0+100000000)]) (F:=Δ1++(Δ++[])) nofun hR hn h5 (z3.pull .k3) (λcd H4 z4=>?_);have hcl:(bt N).length<=5:=by
  have:=congrArg List.length hcn;rw[ce,ce]at this
  omega
 have hkeys:kvs.map (λkv=>kV kv.1)=((bt N).map (·.1)).map v0:=by
  have:=congrArg (List.map kV) hR.1;unfold cg at this;rw[List.map_map,List.map_map]at this;rw[hcn];exact this
 generalize DB N=nb at hO;generalize hcs:bt N=cs at hkb hcl hkeys hcn hO z3 z4;generalize Δ1++(Δ++[])=F at hB hNk z3 z4;clear z1 z2 z3 hR hcs;have z5:Sep (pt cd (.dK (bA cs))::pt nd (.aH o (.dK kvs))::pt B (wn (R.cad 14) dx [("blocks",ul d1),("counts",ul d2)])::pt d1 (.dK kb)::pt d2 (.dK (bA cs))::hand h (0+100000000)::F) H4:=z4;clear z4;walk_at "gd";rename_i p12 W12 y12 p11 W11 y11 p10 W10 y10 p9 W9 y9 p8 W8 y8 r Wr r0 r1 y p7 W7 y7 p6 W6 y6 p5 W5 y5 p4 W4 y4 p3 W3 y3 p2 W2 y2 p1 W1 y1 p0 H5 z6;clear z5 y12 y11 y10 y9 y8 y y7 y6 y5 y4 y3 y2 y1;have ho:r=0\/r=1:=by omega
 generalize eF:pt p1 (v6 [ul p2])::tu p2 [v0 "when",ut r,ul p7,ul p3]::pt p3 (v6 [ul p4])::tu p4 [v0 "times",ut 0,ul p5]::pt p5 (v6 [ul p6])::tu p6 [v0 "fill"]::pt p7 (v6 [])::pt p8 (v6 [ul p9])::tu p9 [v0 "times",ut 0,ul p10]::pt p10 (v6 [ul p11])::tu p11 [v0 "copy"]::pt p12 (v6 [])::F=Fz;have up:∀ A ∈ F,A ∈ Fz:=λA hA=>by
  rw[<-eF];exact ii [_,_,_,_,_,_,_,_,_,_,_,_] hA
 have zt:=Sep.rW (z6.get .k2) (Sep.rW (z6.get (.j2 .k2)) (Sep.rW (z6.get (.j2 (.j2 .k2))) (Sep.rW (z6.get (.j2 (.j2 (.j2 (.j2 .k2))))) (Sep.rW (z6.get (.j2 (.j2 (.j2 (.j2 (.j2 .k2)))))) z6))));have z7:Sep (DS R h nd cd p0 B dx d1 d2 o kvs kb cs (0+100000000+1) [ul p12,ul p8,ul p1] Fz) H5:=by
  rw[<-eF];exact zt.sub (by ac_nf)
 have hh:bD Fz (cs.map (·.1)) [ul p12,ul p8,ul p1]:=by
  rw[<-eF];have okr:∀ {w:Wd},cP (cs.map (·.1)) 2 [Itm.row (.lg w)]:=λ{w}=>⟨by show 1<=30;omega,λi hi=>by rw[mem_singleton.mp hi];exact True.intro⟩
  have okr1:∀ {w:Wd},cP (cs.map (·.1)) 1 [Itm.row (.lg w)]:=λ{w}=>⟨by show 1<=30;omega,λi hi=>by rw[mem_singleton.mp hi];exact True.intro⟩
  refine(bD.one (b:=[]) ⟨p12,[],rfl,by simp,.nil⟩ ⟨by decide,λi hi=>(by cases hi)⟩).app ((bD.one (b:=[.tms 0 [.row (.lg .copy)]]) (v:=ul p8) ⟨p8,[ul p9],rfl,by simp,aw.snoc (α:=Itm) (i:=.tms 0 [.row (.lg .copy)]) aw.nil ⟨p9,p10,[ul p11],rfl,by simp,by simp,aw.snoc (α:=Itm) (i:=.row (.lg .copy)) aw.nil ⟨p11,rfl,(by simp:tu p11 [v0 "copy"] ∈ _)⟩⟩⟩ ⟨by show 1<=30;omega,λi hi=>?_⟩).app (bD.one (b:=[.whn r [] [.tms 0 [.row (.lg .fill)]]]) (v:=ul p1) ⟨p1,[ul p2],rfl,by simp,aw.snoc (α:=Itm) (i:=.whn r [] [.tms 0 [.row (.lg .fill)]]) aw.nil ⟨p2,p7,[],p3,[ul p4],rfl,by simp,⟨by simp,.nil⟩,by simp,aw.snoc (α:=Itm) (i:=.tms 0 [.row (.lg .fill)]) aw.nil ⟨p4,p5,[ul p6],rfl,by simp,by simp,aw.snoc (α:=Itm) (i:=.row (.lg .fill)) aw.nil ⟨p6,rfl,(by simp:tu p6 [v0 "fill"] ∈ _)⟩⟩⟩⟩ ⟨by show 1<=30;omega,λi hi=>?_⟩))
  .rw[mem_singleton.mp hi];exact⟨⟨by decide,by decide⟩,okr⟩
  .rw[mem_singleton.mp hi];refine⟨ho,⟨by decide,λi hi=>(by cases hi)⟩,by show 1<=30;omega,λi hi=>?_⟩;rw[mem_singleton.mp hi];exact⟨⟨by decide,by decide⟩,okr1⟩
 clear zt z6 eF;have hB:=hB.mono up;have hNk:=hNk.mono up;clear up;have hb2:eB 2=10000000:=by decide
 refine fe rfl z7 (.inr ⟨o,z7.get (.t (.j2 (.j2 .e)))⟩) (λT H6 z8=>?_);rw[hkeys]at z8;left;have z9:Sep (hand h (0+100000000+1)::pt T (v6 ((cs.map (·.1)).map v0))::(aM R B dx d1 d2 kb cs [pt cd (.dK (bA cs)),pt nd (.aH o (.dK kvs)),pt p0 (v6 [ul p12,ul p8,ul p1])]++Fz)) H6:=z8.pull .k1;refine jV ro 2 (k:=k-1) nofun ⟨by omega,by omega⟩ (by rw[hb2];omega) (by rw[ce];omega) z9 (λil b Δ2 H7 ok hlb s z10=>?_);have z11:Sep (DS R h nd cd p0 B dx d1 d2 o kvs kb cs (0+100000000+1+eB 2) [ul p12,ul p8,ul p1] (Δ2++Fz)) H7:=(z10.pull .k1).drop;clear z7 z8 z9 z10;rw[hb2]at z11;have hh:=hh.mono (F':=Δ2++Fz) λA=>aa
 have hB:=hB.mono (F':=Δ2++Fz) λA=>aa
 have hNk:=hNk.mono (F':=Δ2++Fz) λA=>aa
 generalize Δ2++Fz=F at hh hB hNk s z11;right;rename_i q6 X6 x6 q5 X5 x5 q4 X4 x4 q3 X3 x3 q2 X2 x2 q1 X1 x1 q0 H8 z12;clear z11 x6 x5 x4 x3 x2 x1;generalize eF:pt q2 (v6 [ul q3])::tu q3 [v0 "when",ut 1,ul il,ul q4]::pt q4 (v6 [])::pt q5 (v6 [ul q6])::tu q6 [v0 "times",ut 1,ul il]::F=Fz;have up:∀ A ∈ F,A ∈ Fz:=λA hA=>by
  rw[<-eF];exact ii [_,_,_,_,_] hA
 rw[show(0+100000000+1+10000000:Int)=110000001 from rfl]at z12;have zt:=Sep.rW (z12.get .k3) (Sep.rW (z12.get (.j2 (.j2 .k2))) z12);have z13:Sep (DS R h nd cd q0 B dx d1 d2 o kvs kb cs 110000001 ([ul p12,ul p8,ul p1]++[ul q5,ul q2]) Fz) H8:=by
  rw[<-eF];exact zt.sub (by ac_nf)
 have hh2:bD Fz (cs.map (·.1)) [ul q5,ul q2]:=by
  obtain⟨l0,vs,e0,hp,al⟩:=s;cases e0;refine(bD.one (b:=[.tms 1 b]) (v:=ul q5) ⟨q5,[ul q6],rfl,by rw[<-eF];simp,aw.snoc (α:=Itm) (i:=.tms 1 b) aw.nil ⟨q6,il,vs,rfl,by rw[<-eF];simp,up _ hp,al.map λv i=>gp.mono up⟩⟩ ⟨by show 1<=30;omega,λi hi=>?_⟩).app (bD.one (b:=[.whn 1 b []]) (v:=ul q2) ⟨q2,[ul q3],rfl,by rw[<-eF];simp,aw.snoc (α:=Itm) (i:=.whn 1 b []) aw.nil ⟨q3,il,vs,q4,[],rfl,by rw[<-eF];simp,⟨up _ hp,al.map λv i=>gp.mono up⟩,by rw[<-eF];simp,.nil⟩⟩ ⟨by show 1<=30;omega,λi hi=>?_⟩)
  .rw[mem_singleton.mp hi];exact⟨⟨by decide,by decide⟩,ok⟩
  .rw[mem_singleton.mp hi];exact⟨.inr rfl,ok,by decide,λi hi=>(by cases hi)⟩
 have hh:=(hh.mono up).app hh2;have hB:=hB.mono up;have hNk:=hNk.mono up;clear zt z12 eF up hh2 s ok hlb;have hl0:([ul p12,ul p8,ul p1]++[ul q5,ul q2]).length=5:=rfl;generalize [ul p12,ul p8,ul p1]++[ul q5,ul q2]=ls0 at hh z13 hl0;refine fh (λj U H=>vd R h nd cd q0 B dx d1 d2 o kvs kb cs Fz 110000001 (ul a) il 5 j U H) ⟨_,_,rfl,ls0,[],?_,hh,?_⟩ (λj U H hj hI=>?_) (λU H hI=>?_)
 .exact hl0
 .have e0:(110000001:Int)+((0:Nat):Int)*1000000001=110000001:=by omega
  rw[e0];exact z13
 .left;exact A1 (k:=k) ro nofun hj (by decide) (by decide) hkeys hcl hI (λσ' H' h=>h)
 clear z13 hh;obtain⟨u7,u8,rfl,ls,Δ3,hll,hh,z14⟩:=hI;have hB:=hB.mono (F':=Δ3++Fz) λA=>aa
 have hNk:=hNk.mono (F':=Δ3++Fz) λA=>aa
 generalize Δ3++Fz=F at hh hB hNk z14;left;refine⟨rfl,?_⟩;left;refine C4 z14 (z14.get (.j2 (.j2 (.j2 .e)))) (λrl H9 z15=>?_);left;refine cB z15 (z15.get (.j2 (.j2 (.j2 .k1)))) z15.at (by rw[List.length_reverse];omega) (λwl H10 z16=>?_);have z17:Sep (B2 R nd cd wl B dx d1 d2 o kvs kb cs (ls++ls.reverse) F) H10:=z16.sub (.cons .k3 (.cons .k3 (.cons .k3 (.cons .k3 (.cons .k3 (.cons .e (.drop (.drop (.drop .refl)))))))));clear z14 z15 z16;left;refine i5 (z17.get (.j2 (.j2 .k1))) ?_;refine gW (xs:=ls++ls.reverse) (λj U H=>AF R h nd cd q0 il wl B dx d1 d2 o kvs kb cs (ls++ls.reverse) F (ul a) u7 u8 U H) ⟨_,_,_,rfl,[],z17⟩ ?_ ?_ ?_
 .rintro j U H ⟨_,_,_,rfl,Δ,z⟩;exact aF.of (z.get (.j2 (.j2 .k1)))
 .intro j x U H hx hI;have hm:x ∈ ls:=by
   rcases mem_append.mp (cr hx) with h|h
   .exact h
   .exact List.mem_reverse.mp h
  obtain⟨b,sp,ok⟩:=hh x hm;left;exact wx (k:=k) ro hk hO hcn h5 hkb hB hNk ok sp hI (λσ' H' h=>h)
 .rintro U H ⟨_,_,_,rfl,Δ,z⟩;left;exact hQ _
def tR (ro:Ro K R):∀ vs H Q E,gm K 63 vs H Q E->ae tab R 90 72 vs H Q E:=Ak ro (pi _)
end
def walk {l:W.OpenLaw}{q:Program}{loose:List Str}{XP:(Str->Option Value)->Heap->Prop}{YP:World->Heap->Prop}{d:DefRec}{K:Params->W.Frag}(hn:l.most=some 63)(hdf:d.params.defaults=[])
    (hY:∀ (w:World) (h:Heap),YP w h->(K w.params).In h)
    (F:∀ (w:World) (mg:GF) (fa:Addr) (h:Heap),(K w.params).In h->h.Ns mainGlobals mg->mg d.name=some (.ref fa)->
      ∃ fd:FuncData,(∀ (s:Shared) (u:Value),BindsTo s fd ⟨[u],[]⟩ [("_law_script",u)])/\∀ base:Heap,(K w.params).In base->base.Ns mainGlobals mg->cC l.prog w (K w.params) mg base (sC l.prog w) 180 fa fd ["_law_script"] (gm (K w.params) 63)):
    W.WalkO q loose XP YP l.row.toRowW d [] (λf vs=>PySem.call f vs):=
  L2.wR (n:=63) (k:=180) (x:="_law_script") (CX:=λw=>sC l.prog w) (sp:=λw=>gm (K w.params) 63) hn (by decide) hdf ⟨rfl,by decide,by decide⟩ hY F (λ_ _ a ns hl _ hS=>⟨a,ns,rfl,hS,hl,λ_=>rfl⟩) λ_ _ _ _ _ z=>rZ z
abbrev Fy:List (Str×V):=[("BOUND",.int 1000000000),("MOST_HOPPED",.int 24),("MOST_ROWS",.int 24),("LONGEST_NAME",.int 8),("LETTERS",.str "abcdefghijklmnopqrstuvwxyz"),("NAMES",.ref 99)]
def FY (p:Params):L3.wW (K0 p) tab Et Fv Fy=true:=by kernel_rfl
def FI (p:Params):L3.jh (K0 p) tab Et 0 tab.fns=true:=by kernel_rfl
end My
open PySem PySem.W PyProof.Rows
set_option maxRecDepth 100000 in
set_option maxHeartbeats 0 in
theorem PySem.Challenge.cw_haulbell_k62_laid_flat_holds : PySem.Challenge.rw_haulbell_k62_laid_flat.Holds := by
  refine holds_law My.CH fun said=>?_
  refine W.holds_open (loose:=My.vR) (N:=14492)
    (q:=My.l6 My.pr)
    (Yf:=fun s=>My.D4.map s.heap.get?)
    (Ya:=fun w=>(My.K0 w.params).map fun p=>some p.2)
    (Xt:=fun s=>xlAt (My.l6 My.pr) [] s&&recOk PySem.Challenge.rw_haulbell_k62_laid_flat.row.records s)
    (XP:=XL (My.l6 My.pr) [])
    (YP:=InK My.K0) My.DF
    (InK.of (as:=My.D4) fun _=>by kernel_rfl) InK.keeps
    (fun s e=>xl_of s (Bool.and_eq_true_iff.mp e).1)
    XL.keeps (by rfl) (by rfl) (by rfl)
    (fun s e=>recFacts_of (Bool.and_eq_true_iff.mp e).2)
    (by rfl) (by assumption) (by decide+kernel)
    ⟨rfl,rfl,rfl,rfl,rfl,by decide+kernel⟩ ?hw ?hc
  case hw=>w_witness2
  refine My.walk (l:=PySem.Challenge.rw_haulbell_k62_laid_flat) rfl rfl (fun w h Y=>Y) ?F
  case F=>
    intro w mg fa h KX G hmg;exact L3.xH KX G hmg (T:=My.tab) (fs:=My.Et) (cs:=My.Fv) (gs:=My.Fy) (d:=My.jK) (fl:=72) (k:=90) (My.FY _) (My.FI _) (by kernel_rfl) rfl rfl rfl (My.tR ⟨rfl,by kernel_rfl,by kernel_rfl,by kernel_rfl,by kernel_rfl,by kernel_rfl,⟨99,by kernel_rfl,L3.Ad (by kernel_rfl)⟩⟩)
