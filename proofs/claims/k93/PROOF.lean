import PyProof.Rows.All
import Wide.All
import OpenK.AllK
import Wide.FinOn
import PySem.Challenge.RW_haulbell_k93_states_written
import Lean
import PyProof.EqAt
import PyProof.EqKinds
import PyProof.TupleCall
import PyProof.EnumStmt
import PyProof.NeKinds
import PyProof.ExcAttrAll.ValueError
import PyProof.ExcInit
import PyProof.StationsW
import PyProof.NsDelKeeps
import PyProof.InstStoreFacts
import PyProof.ZipIter
import PyProof.IsiBase
import PyProof.AttrMiss
import KE.KDictOf
import KE.KDictList
import PyProof.InstEq
import PyProof.Rows.Range3
import PyProof.EnumMake
import PyProof.StrWalks
import PyProof.DictWalks
import PyProof.Rows.StrWeight2
import PyProof.StrCalls2
import PyProof.Rows.StrFacts2
import KE.KEqDict
import KE.KTab
import KE.KTabLook
import KE.KIntText
import PyProof.SliceStr
import PyProof.StrOps2
import KE.LcSums
open PySem.W renaming behindTheImports→ac
open PySem renaming wpAny_bind→ad,wpAny_pure→am,wpAny_field→ap,wpAny_holding→bd,wpAny_truthy_bool→be,starEach→bi,sizeLine→bm,wpAny_Call_Name_kw→bn
open List renaming length_map→bv,length_append→ce,mem_of_getElem?→ci,length_take→cr,mem_cons_of_mem→db,map_append→dl,length_singleton→dL,size_toArray→f8,mem_append_right→ge,getElem?_map→gt,length_drop→ii,append_assoc→im,getElem?_eq_getElem→io,mem_cons_self→jp,mem_cons→le
open Bool renaming and_eq_true→lf
open Option renaming map_eq_some_iff→li
open Nat renaming lt_of_lt_of_le→lw,le_of_ble_eq_true→mo,ne_of_lt→nb,le_refl→nl
open Int renaming toNat_natCast→ol
open List renaming replicate→pc,getElem?_eq_some_iff→pi
open PySem.Heap renaming get?_push_of_some→re,lt_size→sn,get?_push_size→ss
set_option linter.all false
set_option maxRecDepth 100000
set_option Elab.async false
set_option compiler.extract_closed false
theorem My.kleA {a b k:Nat}(h:a<=k)(e:Nat.ble (b+1) a=true):b<=k-1:=Nat.le_sub_one_of_lt (lw (mo e) h)
theorem My.kleB {a b k:Nat}(h:a<=k)(e:Nat.ble b a=true):b<=k:=Nat.le_trans (mo e) h
set_option hygiene false
local macro_rules| `(tactic|sleep $n:num)=>`(tactic|((conv at h=>lhs;whnf);iterate $n (split at h;rotate_left;cases h)))
set_option hygiene true
local macro_rules|`(command|abbrev $i:declId $s:optDeclSig $v:declVal)=>`(command|noncomputable def $i:declId $s:optDeclSig $v:declVal)
local macro_rules|`(command|def $i:declId $b:bracketedBinder* :$t $v:declVal)=>`(command|theorem $i:declId $b:bracketedBinder* :$t $v:declVal)
local macro_rules|`(nofun)=>`(by first|exact My.kleA (by assumption) (by rfl)|exact My.kleB (by assumption) (by rfl)|lia|omega)
local macro_rules|`(tactic|omega)=>`(tactic|lia)
noncomputable abbrev My.pr:PySem.Program:=PySem.Challenge.rw_haulbell_k93_states_written.row.prog
open PySem PySem.W in
set_option maxHeartbeats 0 in
def My.wJ:PySem.Challenge.rw_haulbell_k93_states_written.wellSaid=true:=by
  rewrite [Fast.te9446332074065402090]
  kernel_rfl
namespace L2
open PySem PySem.Spec
abbrev inClass (s:Stmt)(j:Nat):Stmt:=match s with
  | .ClassDef _ _ _ body _ _ _ _ _ _ _=>body.getD j (.Pass ⟨0,0,0,0⟩)
  |_=>.Pass ⟨0,0,0,0⟩
abbrev j4 (s:Stmt):Arguments:=match s with
  | .FunctionDef _ a _ _ _ _ _ _ _ _=>a
  |_=>{ posonlyargs:=[],args:=[],vararg:=none,kwonlyargs:=[],kw_defaults:=[],kwarg:=none,defaults:=[] }
abbrev kO (s:Stmt):List Stmt:=match s with
  | .FunctionDef _ _ b _ _ _ _ _ _ _=>b
  |_=>[]
abbrev iV (s:Stmt):Scope:=match s with
  | .FunctionDef _ _ _ _ _ _ sc _ _ _=>sc
  |_=>{ kind:=.function,names:=[],isGenerator:=false,isCoroutine:=false }
end L2
namespace My
open PySem L2 PySem.W
abbrev top (i:Nat):Stmt:=PySem.Challenge.pw_haulbell_k93_states_written.main.body.getD i (.Pass ⟨0,0,0,0⟩)
abbrev tq (i j:Nat):Stmt:=inClass (top i) j
/-- the top's run on a tree -/
abbrev fJ (tb:String->Option Builtin)(p:Program)(w:World)(m:Nat)(ann:Option Value):Nat->SharedT->Thread->Option SharedT
  |0,_,_=>none
  |n+1,s,t=>match through t with
    |true=>some s
    |false=>match stepOk m ann t with
      |false=>none
      |true=>match stepT (denote tb) p w s t with
        |some r=>fJ tb p w m ann n r.1 r.2
        |none=>none
def ke {tb:String->Option Builtin}{p:Program}{w:World}{m:Nat}{ann:Option Value}:∀ {n:Nat}{s s':SharedT}{t:Thread},fJ tb p w m ann n s t=some s'->topRun tb p w m ann n s.abs t=some s'.abs
  |0,_,_,_,h=>by cases h
  |n+1,s,s',t,h=>by
    unfold fJ at h;unfold topRun;cases a:through t
    · rw[a]at h;dsimp only at h⊢
      cases b:stepOk m ann t
      · rw[b]at h;cases h
      · rw[b]at h;dsimp only at h⊢
        cases c:stepT (denote tb) p w s t with
        |none=>rw[c]at h;cases h
        |some r=>rw[c]at h;rw[stepT_spec c];exact ke h
    · rw[a]at h;cases h;rfl
abbrev yc:Nat->BT->List Obj->BT
  |_,t,[]=>t
  |n,t,o::os=>yc (n+1) (t.ins n o) os
abbrev oY (P:Params):BT:=yc 0 .nil (boot_heap P).objs.toList
abbrev xX (P:Params)(os:OsState):SharedT:=⟨oY P,11,(boot_heap P).life,Array.mk [],boot_drawn,boot_toks,os⟩
def kY {p q:Program}{loose:List Str}{Xt:Shared->Bool}{α:Type}{Yf:Shared->α}{Ya:World->α}{N:Nat}(e:opening p=plainProg p.main.scope.names)(hN:Nat.ble 600 N=true)(f:∀ s,fenceModules? p s=some s)
    (h0:∀ P,absHeap (oY P) 11 (boot_heap P).life=boot_heap P) (h1:∀ P,((boot_heap P).isNs mainGlobals,(boot_heap P).objs.size,(boot_heap P).nsMap mainGlobals "__annotations__")=(true,11,some (.ref 6)))
    (run:∀ (w:World) (os:OsState),(fJ treeTable p w 11 (some (.ref 6)) N (xX w.params os) (topStub p)).map (λs=>(staticsOk (importedModules p.main.body) (boot_heap w.params) s.abs.heap&&namesBound p s.abs.heap&&gensDone s.abs&&laidKept (boot_heap w.params) s.abs.heap,
      openSeen q loose (importedModules p.main.body) Xt true s.abs,Yf s.abs))=some (true,openGood q loose,Ya w)):LeftO p q loose Xt Yf Ya N:=λw=>by
  obtain⟨⟨hp,gs,d,k,os⟩,e1,e2⟩:=li.mp (boot_open e hN f w);obtain⟨rfl,rfl,rfl,rfl⟩:hp=boot_heap w.params/\gs=Array.mk []/\d=boot_drawn/\k=boot_toks:=by simpa using e2
  obtain⟨z1,z2,z3⟩:_/\_/\_:=by simpa only [Prod.mk.injEq] using h1 w.params
  obtain⟨s,r,l⟩:=li.mp (run w os);obtain⟨l1,l2,l3⟩:_/\_/\_:=by simpa only [Prod.mk.injEq] using l
  have r1:=ke r;have a0:(xX w.params os).abs=⟨boot_heap w.params,Array.mk [],boot_drawn,boot_toks,os⟩:=by
    show(⟨absHeap (oY w.params) 11 (boot_heap w.params).life,Array.mk [],boot_drawn,boot_toks,os⟩:Shared)=_;rw[h0]
  rw[a0]at r1;unfold openEnds;rw[e1];have t:topFrom treeTable p w N ⟨boot_heap w.params,Array.mk [],boot_drawn,boot_toks,os⟩=some s.abs:=by
    unfold topFrom;dsimp only;rw[z1,z2,z3,r1];show(match staticsOk (importedModules p.main.body) (boot_heap w.params) s.abs.heap&&namesBound p s.abs.heap&&gensDone s.abs&&laidKept (boot_heap w.params) s.abs.heap with|true=>some s.abs|false=>none)=some s.abs;rw[l1]
  show(topFrom treeTable p w N _).map _=_;rw[t];exact congrArg some (Prod.ext l2 l3)
abbrev x8:List Addr:=2::3::30::31::47::48::50::51::59::60::66::67::68::74::75::81::82::83::87::88::94::95::99::100::113::114::120::121::127::128::169::170::183::184::188::189::195::196::202::203::205::206::214::215::221::222::226::227::233::234::240::241::247::248::252::253::259::260::266::267::273::274::278::279::283::284::288::289::[]
abbrev yk:List Addr:=[48,60,67,75,82,88,95,100,114,121,128,170,184,189,196,203,215,222,227,234,241,248,253,260,267,274,279,284,289]
abbrev zG:List Addr:=[31,51,206]
abbrev runK (tb:String->Option Builtin)(p:Program)(w:World)(m:Nat)(ann:Option Value):Nat->SharedT->Thread->Option (SharedT×Thread)
  |0,s,t=>some (s,t)
  |n+1,s,t=>match through t with
    |true=>none
    |false=>match stepOk m ann t with
      |false=>none
      |true=>match stepT (denote tb) p w s t with
        |some r=>runK tb p w m ann n r.1 r.2
        |none=>none
def c5 {tb:String->Option Builtin}{p:Program}{w:World}{m:Nat}{ann:Option Value}{k:Nat}:∀ {n:Nat}{s:SharedT}{t:Thread}{r:SharedT×Thread},runK tb p w m ann n s t=some r->fJ tb p w m ann (n+k) s t=fJ tb p w m ann k r.1 r.2
  |0,s,t,r,h=>by
    rw[Nat.zero_add];cases h
    rfl
  |n+1,s,t,r,h=>by
    rw[Nat.succ_add];unfold runK at h;conv=>lhs;unfold fJ
    cases a:through t
    · rw[a]at h;dsimp only at h⊢
      cases b:stepOk m ann t
      · rw[b]at h;cases h
      · rw[b]at h;dsimp only at h⊢
        cases c:stepT (denote tb) p w s t with
        |none=>rw[c]at h;cases h
        |some r=>rw[c]at h;exact c5 h
    · rw[a]at h;cases h
abbrev kT (x y:Str)(s:Stmt):Obj:=⟨.none,none,.func { name:=x,qualname:=y,params:=j4 s,body:=.stmts (kO s),scope:=iV s,globals:=builtinsNs,closure:=[],defaults:=.none,kwdefaults:=.none },#[]⟩
abbrev bo (P:Params)(i:Nat):Obj:=(boot_heap P).objs.toList.getD i ⟨.none,none,.plain,#[]⟩
abbrev dc (p:Program):Env:={ scope:=p.main.scope,locals:=mainNs,globals:=mainNs,cells:=[],code:=.ref 13,frame:=some 14 }
abbrev zw:Frame:=.ret (λx=>Sem.bind (match x with| .ok f=>Sem.pure f| .error e=>Sem.raise e) (λ_=>ret .none)) none false [] (.builtin "claim.caller" {}) default []
abbrev pU (p:Program)(X:List Stmt):Sem Fin:=Sem.bind (Sem.onRaise (execs X (dc p)) (leaving (dc p))) (λa=>Sem.pure (Fin.done a))
abbrev mJ (p:Program)(X:List Stmt)(q:Pos):Thread:=⟨pU p X,.body (ac p) (dc p),q,[zw]⟩
def nO {tb:String->Option Builtin}{p:Program}(h:blockStart (ac p) (dc p)=Sem.pure ()):denote tb (.body (ac p) (dc p))=pU p (ac p):=by
  show Sem.bind (blockStart (ac p) (dc p)) (λ_=>pU p (ac p))=_;rw[h]
  rfl
abbrev o0:Obj:=⟨.type "tuple",none,.seq #[] 0,#[]⟩
abbrev oN:Obj:=⟨.none,none,.fields #[],#[]⟩
abbrev oL:List Str->Nat->List Value
  | [],_=>[]
  |x::r,t=>.str x t::oL r (t+1)
abbrev oS (l:List Str)(t:Nat):Obj:=⟨.type "tuple",none,.seq (Array.mk (oL l t)) 0,#[]⟩
abbrev Ac (l:List (Int×Nat)):Array Value:=(l.flatMap λp=>[.int p.1 0,.int 0 0,.ref p.2]).toArray
abbrev zR:List (Int×Nat):=[(1,20),(5,27),(7,40),(14,59),(16,66),(20,74),(22,81),(36,87),(43,94),(45,99),(49,106),(105,214),(111,221),(116,226),(122,233),(128,240),(144,247),(153,252),(161,259),(169,266),(171,273),(181,278),(185,283)]
abbrev oI (l c a:Nat):Obj:=⟨.none,none,.fields #[.int l 0,.int c 0,.ref a],#[]⟩
abbrev oK (x:Str)(t l r:Nat):Obj:=⟨.type "code",none,.fields #[.str x t,.str x (t+1),.str "/claim/cut.py" (t+2),.int l 0,.int 0 0,.int 0 0,.int 0 0,.int 0 0,.ref r,.bool false,.int 181 0,.ref (r+1),.none,.none,.none,.none,.int (t+3:Nat) 0,.int l 0,.str "/claim/cut.py" (t+4)],#[]⟩
abbrev oC (x y:Str)(t l n r u:Nat):Obj:=⟨.type "code",none,.fields #[.str x t,.str y (t+1),.str "/claim/cut.py" (t+2),.int l 0,.int n 0,.int 0 0,.int 0 0,.int 3 0,.ref r,.bool true,.int 181 0,.ref (r+1),.none,.ref (r+2),.ref (r+3),.ref (r+4),.int u 0,.int l 0,.str "/claim/cut.py" (u+1)],#[]⟩
abbrev oF (x y:Str)(s:Stmt)(m:Str)(t c:Nat)(d:Value:=.none):Obj:=⟨.type "function",none,.func (fnOf x y (j4 s) (kO s) (iV s) d .none .none (.str m t) none (.ref c) .none),#[]⟩
abbrev oR (a b:Nat)(m:Str)(t:Nat):Obj:=⟨.type "frame",none,.plain,#[some (.ref a),some (.ref 3),some (.ref b),none,some (.str m t),none,some (.ref 0)]⟩
abbrev oX (x:Str)(b m:List Value)(n:Addr)(s:List Value)(r t u:Nat)(w:String):Obj:=⟨.type "type",none,.cls ⟨x,b,m,n,x,true,[],s,false,none,false⟩,#[some (.ref r),none,some (.str x t),some (.str x u),some (.builtin w),some (.bool true)]⟩
abbrev oU (a:Addr):Obj:=⟨.type "super",none,.fields #[.ref a,.ref a,.ref a],#[]⟩
abbrev oJ (a:Addr):Obj:=⟨.type "builtin_function_or_method",none,.fields #[.builtin "object.__init_subclass__",.ref a],#[]⟩
abbrev oP:Obj:=⟨.type "builtin_function_or_method",none,.fields #[.builtin "type.__prepare__",.type "type"],#[]⟩
abbrev oQ (a:Addr):Obj:=⟨.type "tuple",none,.seq #[.ref a] 0,#[]⟩
abbrev fG (x y:Str)(s:Stmt)(m:Str)(mt:Nat)(l:List Str)(t ln n a:Nat)(r:List Obj):List Obj:=o0::oN::oS l (t+3)::o0::kT x y s::oC x y t ln n a (t+3+l.length)::oF x y s m mt (a+5)::r
abbrev oW:List (Nat×Obj)->List Obj->List Obj
  | [],l=>l
  |x::r,l=>(oW r l).set x.1 x.2
abbrev eV (x:Str)(t:Tok)(v:Value)(P:Params):DictEntry:=⟨PyData.keyHash P x,.str x t,v⟩
abbrev eM (t:Nat)(m:Str)(u:Nat):Params->DictEntry:=eV "__module__" t (.str m u)
abbrev eQ (t:Nat)(m:Str)(u:Nat):Params->DictEntry:=eV "__qualname__" t (.str m u)
abbrev eF (t l u:Nat):Params->DictEntry:=eV "__firstlineno__" t (.int l u)
abbrev eS (t a:Nat):Params->DictEntry:=eV "__static_attributes__" t (.ref a)
abbrev eN (t:Nat):Params->DictEntry:=eV "__doc__" t .none
abbrev eR (x:Str)(t a:Nat):Params->DictEntry:=eV x t (.ref a)
abbrev oD (P:Params)(es:List (Params->DictEntry))(n:Nat):Obj:=⟨.type "dict",none,.dict (Array.mk (es.map λf=>f P)) n,#[]⟩
abbrev zK (P:Params):List Obj:=
bo P 0::
bo P 1::
bo P 2::
bo P 3::
bo P 4::
bo P 5::
bo P 6::
bo P 7::
bo P 8::
bo P 9::
bo P 10::
o0::
oN::
oK "<module>" 182 1 11::
oR 13 3 "__main__" 164::[]
abbrev zW (x y:Str)(t l n r:Nat):Obj:=⟨.type "code",none,.fields #[.str x t,.str y (t+1),.str "/claim/cut.py" (t+2),.int l 0,.int n 0,.int 0 0,.int 0 0,.int 3 0,.ref r,.bool true,.int 181 0,.ref (r+1),.none,.none,.none,.ref (r+2),.int (t+3:Nat) 0,.int l 0,.str "/claim/cut.py" (t+4)],#[]⟩
abbrev oG (x b:String)(v:Value)(a t:Nat):Obj:=⟨.type "getset_descriptor",none,.fields #[.str (Str.ofString x) t,.ref a,.builtin b,v],#[]⟩
@[reducible]def Mt:Type:=Str×Str×List Str×Nat×Nat×List (Obj×Nat)
abbrev sh (a t:Nat)(s:Stmt)(m:Str×Nat)(x y:Str)(l:List Str)(ln n:Nat)(d:Value):List Obj:=match l with
  | []=>o0::oN::kT x y s::zW x y t ln n a::oF x y s m.1 m.2 (a+3) d::[]
  |_=>o0::oN::oS l (t+3)::o0::kT x y s::oC x y t ln n a (t+3+l.length)::oF x y s m.1 m.2 (a+5) d::[]
abbrev zB (a t:Nat)(s:Stmt)(m:Str×Nat)(q:Mt):List Obj:=match q.2.2.2.2.2 with
  | []=>sh a t s m q.1 q.2.1 q.2.2.1 q.2.2.2.1 q.2.2.2.2.1 .none
  |d::_=>d.1::sh (a+1) (t+d.2) s m q.1 q.2.1 q.2.2.1 q.2.2.2.1 q.2.2.2.2.1 (.ref a)
abbrev sA (q:Mt)(a:Nat):Nat:=match q.2.2.1 with
  | []=>a+5+q.2.2.2.2.2.length
  |_=>a+7+q.2.2.2.2.2.length
abbrev xo (q:Mt)(t:Nat):Nat:=match q.2.2.2.2.2 with
  | []=>t+6+q.2.2.1.length
  |d::_=>t+d.2+6+q.2.2.1.length
abbrev zy (i:Nat)(m:Str×Nat):Nat->List Mt->Nat->Nat->(List Obj->Nat->Nat->List Obj)
  |_,[],_,_=>λr _ _=>r
  |j,q::l,a,t=>λr x y=>zB a t (inClass (top i) j) m q++zy i m (j+1) l (sA q a) (xo q t) r x y
abbrev zH:List Mt->Nat->Nat
  | [],a=>a
  |q::l,a=>zH l (sA q a)
abbrev zm:List Mt->Nat->Nat
  | [],a=>a
  |q::l,a=>zm l (xo q a)
abbrev zr:List Mt->Nat->Nat->List (Params->DictEntry)->List (Params->DictEntry)
  | [],_,_,r=>r
  |q::l,a,t,r=>eR q.1 (xo q t-1) (sA q a-1)::zr l (sA q a) (xo q t) r
abbrev zj:List Mt->Nat->List Value
  | [],_=>[]
  |q::l,a=>.int q.2.2.2.1 0::.int 4 0::.ref (sA q a-2)::zj l (sA q a)
@[reducible]def It:Type:=(Params->List Obj)×List (Params->DictEntry)×List Value
abbrev iF (a t i:Nat)(m:Str×Nat)(x:Str)(l:List Str)(ln n:Nat)(d:List (Obj×Nat):=[]):It:=(λ_=>zB a t (top i) m (x,x,l,ln,n,d),eR x (xo (x,x,l,ln,n,d) t-1) (sA (x,x,l,ln,n,d) a-1)::[],.int ln 0::.int 0 0::.ref (sA (x,x,l,ln,n,d) a-2)::[])
abbrev iR (o:Params->List Obj):It:=(o,[],[])
abbrev iE (x:Str)(t:Nat)(v:Value):It:=(λ_=>[],[eV x t v],[])
abbrev iC (a T i:Nat)(m:Str×Nat)(x:Str)(ln:Nat)(ms:List Mt)(st:List Str)(sub:List Value:=[]) (br:Nat:=0) (mro:List Value:=[]) (w:String:=""):It:=
  let b:=zH ms (a+7)
  let s:=zm ms (T+12)
  let e:=s+st.length
  let h (z:List (Params->DictEntry)):=eF (T+11) ln (T+10)::zr ms (a+7) (T+12) (eS e b::z)
  let o (y:List (Params->DictEntry)) (z k:Obj) (n:Nat) (r:List Obj) (P:Params):List Obj:=z::oP::oD P (eM (T+7) m.1 m.2::eQ (T+9) x (T+8)::h []) (4+ms.length)::o0::⟨.none,none,.fields (Array.mk (zj ms (a+7))),#[]⟩::oK x (T+2) ln (a+3)::oR (a+5) (a+2) m.1 m.2::zy i m 0 ms (a+7) (T+12) ((match st with| []=>o0|_=>oS st s)::oD P (eM (T+7) m.1 m.2::h y) n::k::r) 0 0
  match br with
  |0=>(o [eR "__dict__" (e+2) (b+3),eR "__weakref__" (e+4) (b+4),eN (e+5)] o0 ⟨.type "type",none,.cls ⟨x,[.type "object"],[.ref (b+2),.type "object"],b+1,x,true,[],sub,false,none,false⟩,#[none,none,some (.str x T),some (.str x (T+8)),some (.builtin "object.__new__"),some (.bool true)]⟩ 4 [oG "__dict__" "function.__dict__" (.builtin "function.__dict__#set") (b+2) (e+1),oG "__weakref__" "ExceptionGroup.__weakref__" .none (b+2) (e+3),oU (b+2),oJ (b+2)],eR x (e+7) (b+2)::[],.int ln 0::.int 0 0::.ref (a+5)::[])
  |_=>(o [eN (e+1)] (oQ br) (oX x [.ref br] (.ref (b+2)::.ref br::mro) (b+1) sub a T (T+8) w) 2 [oU (b+2),oJ (b+2)],eR x (e+3) (b+2)::[],.int ln 0::.int 0 0::.ref (a+5)::[])
abbrev zC (P:Params)(nm:Str)(nt n:Nat)(l:List It):List Obj:=bo P 0::bo P 1::bo P 2::oD P (eV "__name__" 165 (.str nm nt)::eN 166::eV "__package__" 167 .none::eV "__loader__" 168 (.builtin "__main__.__loader__#opaque")::eV "__spec__" 169 .none::eR "__annotations__" 170 6::eR "__builtins__" 171 4::eV "__file__" 173 (.str "/claim/cut.py" 172)::eV "__cached__" 174 .none::l.flatMap (·.2.1)) n::bo P 4::bo P 5::bo P 6::bo P 7::bo P 8::bo P 9::bo P 10::o0::⟨.none,none,.fields (Array.mk (l.flatMap (·.2.2))),#[]⟩::oK "<module>" 182 1 11::oR 13 3 "__main__" 164::l.flatMap (·.1 P)
abbrev Ae:Str×Nat:=("__main__",164)
abbrev zU:Str×Nat:=("haulbell.errors",194)
abbrev zA:Str×Nat:=("haulbell.wholes",239)
abbrev zv:Str×Nat:=("haulbell.boxes",257)
abbrev xZ:Str×Nat:=("haulbell.reader",285)
abbrev yX:Str×Nat:=("haulbell.texts",449)
abbrev pF:Str×Nat:=("law_haulbell_k93_states_written",472)
abbrev Ag (a T i:Nat)(m:Str×Nat)(x:Str)(ln:Nat)(ms:List Mt)(st:List Str)(sub:List Value:=[]):It:=iC a T i m x ln ms st sub 31 [.type "ValueError",.type "Exception",.type "BaseException",.type "object"] "ValueError.__new__"
abbrev wo:List It:=
iF 15 187 0 Ae "_wall" ["k"] 1 1::
iE "HaulError" 213 (.ref 31)::
iR (λP=>[⟨.type "tuple",none,.seq #[.type "ValueError"] 0,#[]⟩,oP,oD P [eM 203 "haulbell.errors" 194,eQ 205 "HaulError" 204,eF 207 5 206,eS 208 29] 4,o0,oN,oK "HaulError" 198 5 25,oR 27 24 "haulbell.errors" 194,o0,oD P [eM 203 "haulbell.errors" 194,eF 207 5 206,eS 208 29,eR "__weakref__" 210 32,eN 211] 3,oX "HaulError" [.type "ValueError"] [.ref 31,.type "ValueError",.type "Exception",.type "BaseException",.type "object"] 30 [.ref 51] 22 196 204 "ValueError.__new__",⟨.type "getset_descriptor",none,.fields #[.str "__weakref__" 209,.ref 31,.builtin "ExceptionGroup.__weakref__",.none],#[]⟩,oU 31,oJ 31])::
Ag 35 214 3 zU "NoText" 7 [("__init__","NoText.__init__",["self","at"],9,2,[])] ["at"]::
iE "BOUND" 242 (.int 1000000000 241)::
iF 54 243 6 zA "is_whole" ["thing"] 14 1::
iF 61 250 7 zA "is_content" ["thing"] 16 1::
iE "NAMES" 265 (.ref 68)::
iR (λ_=>[oS ["here","there","left","way","sign","met"] 259])::
iF 69 266 10 zv "is_number" ["thing"] 20 1::
iF 76 273 11 zv "fits" ["box","thing"] 22 2::
iE "MOST_ROWS" 282 (.int 24 281)::
iE "MOST_CELLS" 284 (.int 60 283)::
iE "FIGURES" 288 (.str "0123456789" 287)::
iE "MOST_FIGURES" 290 (.int 10 289)::
iE "LEAVE_OF" 300 (.ref 83)::
iR (λP=>[oD P [eV "o" 291 (.str "open" 292),eV "l" 293 (.str "look" 294),eV "s" 295 (.str "shut" 296)] 3])::
iF 84 301 18 xZ "is_written" [] 36 1::
iF 89 307 19 xZ "number_of" ["word"] 43 1::
iF 96 314 20 xZ "are_letters" [] 45 1::
iC 101 320 21 xZ "Reader" 49 [("__init__","Reader.__init__",["self","text"],51,2,[]),("ahead","Reader.ahead",["self"],57,1,[]),("take","Reader.take",["self","stands","word"],60,2,[]),("skips","Reader.skips",["self","word"],67,2,[]),("take_word","Reader.take_word",["self","word"],70,2,[]),("take_any","Reader.take_any",["self"],73,1,[]),("take_name","Reader.take_name",["self"],76,1,[]),("take_box","Reader.take_box",["self"],79,1,[]),("take_number","Reader.take_number",["self","low","high","number"],82,3,[]),("take_any_number","Reader.take_any_number",["self"],87,1,[]),("take_fitting","Reader.take_fitting",["self","box","number"],90,2,[]),("take_leaves","Reader.take_leaves",[],95,1,[]),("ended","Reader.ended",["self"],98,1,[]),("finish","Reader.finish",["self"],101,1,[])] ["at","queue"]::
iF 211 451 23 yX "state_from" [] 105 1::
iF 216 457 24 yX "read_state" ["text","reader","told"] 111 1::
iF 223 466 25 yX "show_state" [] 116 2::
iF 228 474 27 pF "_law_hand" ["_law_script","_law_cells_here","_law_fold","_law_cell"] 122 1::
iF 235 484 28 pF "_law_draw" ["_law_hand_here","_law_many","_law_rest","_law_cell","_law_one","_law_two"] 128 2::
iF 242 496 29 pF "_law_content" ["_law_hand_here","_law_way"] 144 1::
iF 249 504 30 pF "_law_cells" [] 153 2::
iF 254 510 31 pF "_law_leaves" ["_law_hand_here","_law_many","_law_leaves_here","_law_k","_law_word","_law_low","_law_cell"] 161 2::
iF 261 523 32 pF "_law_whole" ["_law_thing"] 169 1::
iF 268 530 33 pF "_law_numbers" ["_law_hand_here","_law_numbers_here","_law_k","_law_far"] 171 1::
iF 275 540 34 pF "_law_written" [] 181 4::
iF 280 546 35 pF "_law_right" [] 185 5::[]
abbrev zX (P:Params):List Obj:=oW [(12,⟨.none,none,.fields (Ac zR),#[]⟩)] (zC P "law_haulbell_k93_states_written" 472 39 wo)
abbrev S0 (P:Params)(os:OsState):SharedT:=⟨yc 0 .nil (zK P),15,(boot_heap P).life,Array.mk [],boot_drawn,187,os⟩
abbrev q0:Pos:=⟨0,0,0,0⟩
abbrev S1 (P:Params)(os:OsState):SharedT:=⟨yc 0 .nil (zX P),285,(boot_heap P).life,Array.mk [],boot_drawn,552,os⟩
abbrev q1:Pos:=⟨185,0,193,97⟩
abbrev z0 (P:Params):List Obj:=zC P "law_haulbell_k93_states_written" 472 40 (wo++[iF 285 552 36 pF "law" [] 194 1])
abbrev K0 (P:Params):PySem.W.Frag:=x8.map λa=>(a,(z0 P).getD a oN)
abbrev iW (p:Program):Program:=PySem.W.view p [36]
abbrev nB:List Str:=["_wall","HaulError","NoText","BOUND","is_whole","is_content","NAMES","is_number","fits","MOST_ROWS","MOST_CELLS","FIGURES","MOST_FIGURES","LEAVE_OF","is_written","number_of","are_letters","Reader","state_from","read_state","show_state","_law_hand","_law_draw","_law_content","_law_cells","_law_leaves","_law_whole","_law_numbers","_law_written","_law_right"]
end My
open PySem PySem.W in
set_option maxHeartbeats 0 in
def My.vK (w:World)(os:OsState):My.runK treeTable My.pr w 11 (some (.ref 6)) 12 (My.xX w.params os) (topStub My.pr)=some (My.S0 w.params os,⟨denote treeTable (.body (ac My.pr) (My.dc My.pr)),.body (ac My.pr) (My.dc My.pr),default,[My.zw]⟩):=by
  delta My.pr;rewrite[Fast.te2368527892694137696,Fast.te14364793385576792824]
  kernel_rfl
open PySem PySem.W in
set_option maxHeartbeats 0 in
def My.tJ (w:World)(os:OsState)(B:List Stmt):My.runK treeTable My.pr w 11 (some (.ref 6)) 1813 (My.S0 w.params os) (My.mJ My.pr (((ac My.pr).drop 0).take 36++B) My.q0)=some (My.S1 w.params os,My.mJ My.pr B My.q1):=
  byRow2 (P:=λw=>My.runK treeTable My.pr w 11 (some (.ref 6)) 1813 (My.S0 w.params os) (My.mJ My.pr (((ac My.pr).drop 0).take 36++B) My.q0)=some (My.S1 w.params os,My.mJ My.pr B My.q1)) "special-get-raises"
   (λw=>by
    delta My.pr;rewrite[Fast.te2368527892694137696,Fast.te14364793385576792824]
    kernel_rfl)
   (λw=>by
    delta My.pr;rewrite[Fast.te2368527892694137696,Fast.te14364793385576792824]
    kernel_rfl) w
open PySem PySem.W in
set_option maxHeartbeats 0 in
def My.xa:LeftO My.pr (My.iW My.pr) My.nB (λs=>xlAt (My.iW My.pr) [] s&&recOk PySem.Challenge.rw_haulbell_k93_states_written.row.records s) (λs=>My.x8.map s.heap.get?) (λw=>(My.K0 w.params).map λp=>some p.2) 3804:=by
  refine My.kY (by kernel_rfl) rfl (λ_=>by kernel_rfl) (λ_=>by kernel_rfl) (λ_=>by kernel_rfl) λw os=>?_
  have d:denote treeTable (.body (ac My.pr) (My.dc My.pr))=My.pU My.pr (ac My.pr):=My.nO (by kernel_rfl);have e:My.fJ treeTable My.pr w 11 (some (.ref 6)) (12+(1813+(1979))) (My.xX w.params os) (topStub My.pr)=My.fJ treeTable My.pr w 11 (some (.ref 6)) 1979 (My.S1 w.params os) (My.mJ My.pr ((ac My.pr).drop 36) My.q1):=by
    rw[My.c5 (My.vK w os)];dsimp only;rw[d];show My.fJ treeTable My.pr w 11 (some (.ref 6)) _ (My.S0 w.params os) (My.mJ My.pr ((ac My.pr).drop 0) My.q0)=_;rw[show(ac My.pr).drop 0=((ac My.pr).drop 0).take 36++(ac My.pr).drop 36 from by
      rw[show(ac My.pr).drop 36=((ac My.pr).drop 0).drop 36 by rw[List.drop_drop],List.take_append_drop],My.c5 (My.tJ w os _)]
  rw[show(3804:Nat)=12+(1813+(1979)) from rfl,e]
  delta My.pr;rewrite[Fast.te4187177175401517315,Fast.te5923862056798008813,Fast.te2368527892694137696,Fast.te14364793385576792824]
  kernel_rfl
set_option Elab.async false
open List(mem_range filterMap_cons mem_cons_self mem_cons_of_mem mem_cons mem_append mem_append_left getElem?_set_self getElem?_set_ne mem_append_right size_toArray any_eq_false length_cons map_cons length_map append_nil nodup_cons of_mem_zip length_take getElem?_append_right getElem?_map take_sublist mem_of_getElem? length_append length_replicate length_drop length_set all_cons any_cons replicate_succ flatten_cons append_assoc foldl_cons length_singleton nil_append find?_cons length_nil forIn_cons forIn_nil getElem?_eq_getElem drop_zero lookup_cons take_of_length_le length_eq_zero_iff all_eq_true not_mem_nil zip_cons_cons zip_append take_append_drop isEmpty_iff mem_singleton map_replicate map_append take_add_one sum_cons)
@[reducible]def AB:Type:=Unit->PySem.Shared->Prop
@[reducible]def AD:Type:=PySem.Value->PySem.Shared->Prop
@[reducible]def AE:Type:=List (PySem.Addr×PySem.Obj)
@[reducible]def AF:Type:=PySem.Str->Option PySem.Value
namespace L2
open PySem PySem.Spec PyProof.Rows
@[reducible]def Key:=Sum Int Str
abbrev fS:Key->Value->Bool
 | .inl k,v=>Value.isInt k v
 | .inr x,v=>Value.isStrOf x v
abbrev yC (w:World):Key->Int
 | .inl k=>hashInt k
 | .inr x=>hashStr w x
def aj:∀ {k:Key}{v:Value},fS k v=true->(∃ i t,k=Sum.inl i/\v=Value.int i t)\/(∃ x t,k=Sum.inr x/\v=Value.str x t)
 | .inl i,v,h=>by
  obtain⟨t,e⟩:=Value.isInt_shape (k:=i) (v:=v) h;exact .inl ⟨i,t,rfl,e⟩
 | .inr x,v,h=>by
  obtain⟨t,e⟩:=Value.isStrOf_shape (x:=x) (v:=v) h;exact .inr ⟨x,t,rfl,e⟩
def lE (i:Int)(t:Tok):fS (.inl i) (.int i t)=true:=by simp[fS,Value.isInt]
def lg (x:Str)(t:Tok):fS (.inr x) (.str x t)=true:=by simp[fS,Value.isStrOf]
def vt (a b:Int):decide ((Sum.inl a:Key)=Sum.inl b)=(a ==b):=by
 by_cases e:a=b
 .subst e;simp
 .have h:¬ (Sum.inl a:Key)=Sum.inl b:=λq=>e (Sum.inl.inj q)
  rw[decide_eq_false h];exact(beq_eq_false_iff_ne.mpr e).symm
def tZ (a b:Str):decide ((Sum.inr a:Key)=Sum.inr b)=decide (a=b):=by
 by_cases e:a=b
 .subst e;simp
 .have h:¬ (Sum.inr a:Key)=Sum.inr b:=λq=>e (Sum.inr.inj q)
  rw[decide_eq_false h,decide_eq_false e]
def tK (a:Int)(b:Str):decide ((Sum.inl a:Key)=Sum.inr b)=false:=decide_eq_false (λq=>nomatch q)
def tQ (a:Str)(b:Int):decide ((Sum.inr a:Key)=Sum.inl b)=false:=decide_eq_false (λq=>nomatch q)
abbrev aq (prog:Program)(w:World):PySem.KeyKind prog w Key where
 is:=fS
 hash:=yC w
 inj:=λv a b ha hb=>by
  rcases aj ha with⟨i,t,rfl,rfl⟩|⟨x,t,rfl,rfl⟩
  .rcases aj hb with⟨j,u,rfl,e⟩|⟨y,u,rfl,e⟩
   .injection e with e1 _;rw[e1]
   .exact nomatch e
  .rcases aj hb with⟨j,u,rfl,e⟩|⟨y,u,rfl,e⟩
   .exact nomatch e
   .injection e with e1 _;rw[e1]
 byValue:=λk v h=>by
  rcases aj h with⟨i,t,rfl,rfl⟩|⟨x,t,rfl,rfl⟩<;>rfl
 pyHash:=λhv h=>by
  rcases aj hv with⟨i,t,rfl,rfl⟩|⟨x,t,rfl,rfl⟩
  .exact wpAny_pyHash_int h
  .exact wpAny_pyHash_str h
 eqBool:=λhu hv h=>by
  rcases aj hu with⟨i,t,rfl,rfl⟩|⟨x,t,rfl,rfl⟩
  .rcases aj hv with⟨j,u,rfl,rfl⟩|⟨y,u,rfl,rfl⟩
   .rw[vt]at h;exact wpAny_eqBool_int h
   .rw[tK]at h;exact SeqAt.EqAt.int_str i t y u _ _ _ _ h
  .rcases aj hv with⟨j,u,rfl,rfl⟩|⟨y,u,rfl,rfl⟩
   .rw[tQ]at h;exact SeqAt.EqAt.str_int x t j u _ _ _ _ h
   .rw[tZ]at h;exact wpAny_eqBool_str h
 «strs»:=λk x t v h=>by
  rcases aj h with⟨i,u,rfl,e⟩|⟨y,u,rfl,e⟩
  .exact nomatch e
  .injection e with e1 _
   subst e1;cases v<;>rfl
def iJ (prog:Program)(w:World)(i:Int)(t:Tok):(aq prog w).is (.inl i) (.int i t)=true:=lE i t
def iL (prog:Program)(w:World)(x:Str)(t:Tok):(aq prog w).is (.inr x) (.str x t)=true:=lg x t
inductive V where
 |non|bl (b:Bool)|int (i:Int)|str (x:Str)|byt (b:Array UInt8)|flt (b:UInt64)|ref (a:Addr)|ty (n:String)
 deriving DecidableEq
abbrev RelV:V->Value->Prop
 | .non,u=>u=Value.none
 | .bl b,u=>u=Value.bool b
 | .int i,u=>∃ t,u=Value.int i t
 | .str x,u=>∃ t,u=Value.str x t
 | .byt b,u=>∃ t,u=Value.bytes b t
 | .flt b,u=>∃ t,u=Value.float b t
 | .ref a,u=>u=Value.ref a
 | .ty n,u=>u=Value.type n
@[reducible]def Vals:List V->List Value->Prop:=Paired RelV
variable {xs:List V}{us:List Value}
def Vals.length (r:Vals xs us):xs.length=us.length:=Paired.length r
def Vals.get:∀ {xs:List V}{us:List Value}{i:Nat}{x:V},Vals xs us->xs[i]? =some x->∃ u,us[i]? =some u/\RelV x u
 |_,_,_,_,.nil,e=>by simp at e
 |_,_,0,_,.cons r _,e=>by simp at e;subst e;exact⟨_,rfl,r⟩
 |_,_,i+1,x,.cons _ t,e=>by
  obtain⟨u,h1,h2⟩:=Vals.get (i:=i) (x:=x) t (by simpa using e);exact⟨u,by simpa using h1,h2⟩
variable {u:Value}
def Vals.set {x:V}(r:RelV x u):∀ {xs:List V}{us:List Value}(i:Nat),Vals xs us->Vals (xs.set i x) (us.set i u)
 |_,_,_,.nil=>.nil
 |_,_,0,.cons _ t=>.cons r t
 |_,_,i+1,.cons q t=>.cons q (Vals.set r i t)
def Vals.append:∀ {xs ys:List V}{us ws:List Value},Vals xs us->Vals ys ws->Vals (xs++ys) (us++ws)
 |_,_,_,_,.nil,s=>s
 |_,_,_,_,.cons r t,s=>.cons r (Vals.append t s)
def Vals.take:∀ {xs:List V}{us:List Value}(n:Nat),Vals xs us->Vals (xs.take n) (us.take n)
 |_,_,0,_=>.nil
 |_,_,_+1,.nil=>.nil
 |_,_,n+1,.cons r t=>.cons r (Vals.take n t)
def Vals.drop:∀ {xs:List V}{us:List Value}(n:Nat),Vals xs us->Vals (xs.drop n) (us.drop n)
 |_,_,0,r=>r
 |_,_,_+1,.nil=>.nil
 |_,_,n+1,.cons _ t=>Vals.drop n t
abbrev a8:Option V->Option Value->Prop
 |some v,some u=>RelV v u
 |none,none=>True
 |_,_=>False
abbrev KV {κ:Type}:List (κ×V)->List (κ×Value)->Prop:=Paired λ(p:κ×V) (q:κ×Value)=>p.1=q.1/\RelV p.2 q.2
abbrev kV:Key->V
 | .inl i=>.int i
 | .inr x=>.str x
inductive HO where
  |lst (xs:List V)
  |tup (xs:List V)
  |dK (kvs:List (Key×V))|dT (kvs:List (List Key×V))
  |set (S:Int->Bool) (n:Nat)
  |ins (C dx:Addr) (fs:List (Str×V))
  |own (x:Addr)
  |exc (C:Addr) (dx:Option Addr) (fs:List (Str×V)) (fr:Bool)
  |xd (fs:List (Str×V))
  |met (f x:Addr)
  |rng (lo hi:Int)
  |fq (o:Obj) (u:HO)
  |tbl (ps:Array Value)
  |ext (φ:Heap->Prop)
@[reducible]def Hp:=Addr->Option HO
abbrev upd (H:Hp)(a:Addr)(o:HO):Hp:=λb=>if b=a then some o else H b
variable {H:Hp}{a:Addr}{o:HO}
def ag:upd H a o a=some o:=by unfold upd;rw[if_pos rfl]
variable {b:Addr}
def ab (h:b≠a):upd H a o b=H b:=by unfold upd;rw[if_neg h]
def qD {u:HO}:upd (upd H a o) a u=upd H a u:=by
 funext b;unfold upd;split<;>rfl
def wt {u:HO}(h:H a=some o)(h':H b=some u)(d:o≠u):a≠b:=by
 intro e;subst e;rw[h]at h';exact d (Option.some.inj h')
def aT (h:H a=some o)(h':H b=none):a≠b:=by
 intro e;subst e;rw[h]at h';cases h'
section
variable (P:Program) (w:World)
abbrev ao (H:Hp)(h:Heap)(a:Addr):HO->Prop
 | .lst xs=>xs.length<=bm/\∃ (its:List Value) (n:Nat),Vals xs its/\h.get? a=some { cls:=.type "list",data:=.seq its.toArray n }
 | .tup xs=>xs.length<=bm/\∃ its:List Value,Vals xs its/\IsTup h a its.toArray
 | .dK kvs=>kvs.length<=bm/\(a ==sysModules)=false/\∃ vs,KV kvs vs/\h.DictOf (aq P w) a vs
 | .dT kvs=>kvs.length<=bm/\(a ==sysModules)=false/\∃ xs:List (List Key×Addr×Value),
   Paired (λ(p:List Key×V) (q:List Key×Addr×Value)=>p.1=q.1/\H q.2.1=some (.tup (p.1.map kV))/\RelV p.2 q.2.2) kvs xs/\
   ∃ o es ep,h.get? a=some o/\o.ExactDict/\o.data=.dict es ep/\es.toList=xs.map (entryOfKey (tupleKind (aq P w)))/\(xs.map (·.1)).Nodup
 | .set S n=>h.SetOf (intKind P w) a S n
 | .ins C dx fs=>H dx=some (.own a)/\fs.length<=1000/\dx≠a/\h.get? a=some (W.instObj C dx)/\
   ∃ mA,h.Ns1 dx mA/\(∀ f,a8 (fs.lookup f) (mA f))/\PySem.Within mA (fs.map (·.1))
 | .exc C dx fs fr=>(∃ vs,h.get? a=some { cls:=.ref C,dict:=dx,data:=.fields vs }/\vs.size=6/\(fr=true->vs[1]? =some Value.none))/\
   ((dx=none/\fs=[])\/∃ d,dx=some d/\H d=some (.own a)/\fs.length<=1000/\d≠a/\∃ mA,h.Ns1 d mA/\(∀ f,a8 (fs.lookup f) (mA f))/\PySem.Within mA (fs.map (·.1)))
 | .own _=>∃ o,h.get? a=some o
 | .xd fs=>∃ mA,h.Ns1 a mA/\∀ f,a8 (fs.lookup f) (mA f)
 | .rng lo hi=>∃ t u v,h.get? a=some { cls:=.type "range",data:=.fields #[.int lo t,.int hi u,.int 1 v] }
 | .fq o u=>h.get? a=some o/\ao H h a u
 | .tbl ps=>h.get? a=some { cls:=.none,data:=.fields ps }
 | .met f x=>h.get? a=some (W.methodObj (.ref f) (.ref x))
 | .ext φ=>φ h/\(∃ o,h.get? a=some o)/\∀ h1 h2:Heap,φ h1->(∀ o,h1.get? a=some o->h2.get? a=some o)->φ h2
abbrev cu (H:Hp)(h:Heap):Prop:=∀ a o,H a=some o->ao P w H h a o
end
section
variable {P:Program}{w:World}{H H':Hp}{h h':Heap}{a:Addr}{o:HO}
def ao.lt (x:ao P w H h a o):a<h.objs.size:=by
 cases o with
 |lst xs=>obtain⟨_,_,_,_,e⟩:=x;exact sn e
 |tup xs=>obtain⟨_,_,_,p⟩:=x;exact p.lt
 |dK kvs=>obtain⟨_,_,_,_,o,_,_,e,_⟩:=x;exact sn e
 |dT kvs=>obtain⟨_,_,_,_,o,_,_,e,_⟩:=x;exact sn e
 |set S n=>obtain⟨o,_,_,_,e,_⟩:=x;exact sn e
 |ins C dx fs=>obtain⟨_,_,_,e,_⟩:=x;exact sn e
 |exc C dx fs fr=>obtain⟨⟨_,e,_⟩,_⟩:=x;exact sn e
 |own y=>obtain⟨_,e⟩:=x;exact sn e
 |xd fs=>obtain⟨_,⟨_,_,_,e,_⟩,_⟩:=x;exact sn e
 |rng lo hi=>obtain⟨_,_,_,e⟩:=x;exact sn e
 |fq ob u=>obtain⟨e,_⟩:=x;exact sn e
 |tbl ps=>exact sn (show h.get? a=some _ from x)
 |met f y=>exact sn (show h.get? a=some _ from x)
 |ext φ=>obtain⟨_,⟨_,e⟩,_⟩:=x;exact sn e
def Paired.uI {α β:Type}{F G:α->β->Prop}:∀ {l₁:List α}{l₂:List β},Paired F l₁ l₂->(∀ a b,F a b->G a b)->Paired G l₁ l₂
 |_,_,.nil,_=>.nil
 |_,_,.cons r t,f=>.cons (f _ _ r) (Paired.uI t f)
def ao.cJ (x:ao P w H h a o)(k:∀ b u,(b=a\/H b=some (.own a))->h.get? b=some u->h'.get? b=some u)
  (ho:∀ b,H b=some (.own a)->H' b=some (.own a)) (ht:∀ b xs,H b=some (.tup xs)->H' b=some (.tup xs)):ao P w H' h' a o:=by
 induction o with
 |lst xs=>obtain⟨z,its,n,r,e⟩:=x;exact⟨z,its,n,r,k _ _ (.inl rfl) e⟩
 |tup xs=>obtain⟨z,its,r,ob,e,c⟩:=x;exact⟨z,its,r,ob,k _ _ (.inl rfl) e,c⟩
 |dK kvs=>obtain⟨z,y,vs,r,ob,es,ep,e,c⟩:=x;exact⟨z,y,vs,r,ob,es,ep,k _ _ (.inl rfl) e,c⟩
 |dT kvs=>
  obtain⟨z,y,xs,r,ob,es,ep,e,c⟩:=x;exact⟨z,y,xs,Paired.uI r λp q z=>⟨z.1,ht _ _ z.2.1,z.2.2⟩,ob,es,ep,k _ _ (.inl rfl) e,c⟩
 |set S n=>obtain⟨ob,es,ep,t,e,c⟩:=x;exact⟨ob,es,ep,t,k _ _ (.inl rfl) e,c⟩
 |ins C dx fs=>
  obtain⟨d,z,ne,e,mA,⟨od,es,ep,e2,c⟩,r⟩:=x;exact⟨ho _ d,z,ne,k _ _ (.inl rfl) e,mA,⟨od,es,ep,k _ _ (.inr d) e2,c⟩,r⟩
 |exc C dx fs fr=>
  obtain⟨⟨vs,e,z⟩,q⟩:=x;refine⟨⟨vs,k _ _ (.inl rfl) e,z⟩,?_⟩;rcases q with q|⟨d,ed,d1,z1,ne,mA,⟨od,es,ep,e2,c⟩,r⟩
  .exact .inl q
  .exact .inr ⟨d,ed,ho _ d1,z1,ne,mA,⟨od,es,ep,k _ _ (.inr d1) e2,c⟩,r⟩
 |own y=>obtain⟨ob,e⟩:=x;exact⟨ob,k _ _ (.inl rfl) e⟩
 |xd fs=>obtain⟨mA,⟨od,es,ep,e,c⟩,r⟩:=x;exact⟨mA,⟨od,es,ep,k _ _ (.inl rfl) e,c⟩,r⟩
 |rng lo hi=>obtain⟨t,u,v,e⟩:=x;exact⟨t,u,v,k _ _ (.inl rfl) e⟩
 |fq ob u ih=>obtain⟨e,q⟩:=x;exact⟨k _ _ (.inl rfl) e,ih q⟩
 |tbl ps=>
  have e:h.get? a=some { cls:=.none,data:=.fields ps }:=x;show h'.get? a=some { cls:=.none,data:=.fields ps };exact k a _ (.inl rfl) e
 |met f y=>
  have e:h.get? a=some (W.methodObj (.ref f) (.ref y)):=x;show h'.get? a=some (W.methodObj (.ref f) (.ref y));exact k a _ (.inl rfl) e
 |ext φ=>obtain⟨p,⟨o,e⟩,st⟩:=x;exact⟨st _ _ p λo q=>k _ _ (.inl rfl) q,⟨o,k _ _ (.inl rfl) e⟩,st⟩
def cu.lt (x:cu P w H h)(e:H a=some o):a<h.objs.size:=(x a o e).lt
def cu.fresh (x:cu P w H h)(e:h.objs.size<=a):H a=none:=by
 cases q:H a with
 |none=>rfl
 |some u=>exact absurd (lw (x.lt q) e) (Nat.lt_irrefl _)
def cu.kept (x:cu P w H h)(k:∀ b u,h.get? b=some u->h'.get? b=some u):cu P w H h':=λa o e=>
 (x a o e).cJ (λb u _ q=>k b u q) (λ_ q=>q) λ_ _ q=>q
def cu.laid (x:cu P w H h)(k:∀ b u,h.get? b=some u->h'.get? b=some u) (hp:h.objs.size<=a) (new:ao P w (upd H a o) h' a o):cu P w (upd H a o) h':=λb u e=>by
 have hn:=x.fresh hp
 by_cases hb:b=a
 .subst hb;rw[ag]at e;cases e;exact new
 .rw[ab hb]at e;exact(x b u e).cJ (λc v _ q=>k c v q) (λc q=>by rw[ab (aT q hn)];exact q) λc xs q=>by rw[ab (aT q hn)];exact q
end
abbrev Rd (H:Hp)(a:Addr)(u:HO):Prop:=H a=some u\/∃ o,H a=some (.fq o u)
variable {P:Program}{w:World}{h:Heap}
def Rd.ok {u:HO}(r:Rd H a u)(x:cu P w H h):ao P w H h a u:=by
 rcases r with r|⟨o,r⟩
 .exact x a u r
 .obtain⟨_,q⟩:=x a _ r;exact q
abbrev xA:Option HO->Prop
 |some (.lst _)=>True
 |some (.dK _)=>True
 |some (.dT _)=>True
 |some (.set _ _)=>True
 |some (.ins _ _ _)=>True
 |some (.exc _ _ _ _)=>True
 |some (.ext _)=>True
 |_=>False
section
variable {P:Program}{w:World}{H:Hp}{h h':Heap}{x e:Addr}{o':HO}
def cu.write (ok:cu P w H h)(mu:xA (H x))(he:e=x\/H e=some (.own x))(k:∀ b u,b≠e->h.get? b=some u->h'.get? b=some u) (heo:∃ u,h'.get? e=some u)
  (new:ao P w (upd H x o') h' x o'):cu P w (upd H x o') h':=λb u q=>by
 have nown:∀ c y,H c=some (.own y)->c≠x:=λc y r z=>by subst z;rw[r]at mu;exact mu
 have ntup:∀ c xs,H c=some (.tup xs)->c≠x:=λc xs r z=>by subst z;rw[r]at mu;exact mu
 by_cases hb:b=x
 .subst hb;rw[ag]at q;cases q;exact new
 .rw[ab hb]at q
  by_cases hbe:b=e
  .have q':H b=some (.own x):=by
    rcases he with z|z
    .exact absurd (hbe.trans z) hb
    .rw[hbe];exact z
   rw[q]at q';cases q';obtain⟨v,hv⟩:=heo;exact⟨v,by rw[hbe];exact hv⟩
  .refine(ok b u q).cJ (λc v hc r=>k c v ?_ r) (λc r=>by rw[ab (nown c b r)];exact r) λc xs r=>by rw[ab (ntup c xs r)];exact r
   rcases hc with rfl|hc
   .exact hbe
   .rintro rfl;rcases he with z|z
    .exact nown c b hc z
    .rw[hc]at z;cases z;exact hb rfl
end
structure Un (fs ex:List Addr) (H H':Hp) (h h':Heap):Prop where
 keep:∀ b o,h.get? b=some o->H b=none->b ∉ fs->b ∉ ex->h'.get? b=some o
 slot:∀ b o,h.get? b=some o->H b=none->b ∈ fs->b ∉ ex->∃ sl,h'.get? b=some { o with slots:=sl }
 free:∀ b o,h.get? b=some o->H b=none->b ∉ ex->H' b=none
 there:∀ b o,h.get? b=some o->b ∉ ex->∃ o',h'.get? b=some o'
 tups:∀ b xs,H b=some (.tup xs)->H' b=some (.tup xs)
 frzs:∀ b o u,H b=some (.fq o u)->H' b=some (.fq o u)
 tbls:∀ b ps,H b=some (.tbl ps)->∃ more,H' b=some (.tbl (ps++more))
section
variable {fs fs' ex ex':List Addr}{H H1 H2:Hp}{h h1 h2 h':Heap}{a x e:Addr}{o:HO}
def Un.any (u:Un fs ex H H1 h h1){ob:Obj}(q:h.get? b=some ob)(n:H b=none)(hx:b ∉ ex):∃ sl,h1.get? b=some { ob with slots:=sl }:=by
 by_cases hb:b ∈ fs
 .exact u.slot b ob q n hb hx
 .exact⟨ob.slots,u.keep b ob q n hb hx⟩
def Un.kept (k:∀ b u,h.get? b=some u->h'.get? b=some u):Un fs ex H H h h':=
 ⟨λb ob q _ _ _=>k b ob q,λb ob q _ _ _=>⟨ob.slots,k b ob q⟩,λ_ _ _ n _=>n,λb ob q _=>⟨ob,k b ob q⟩,λ_ _ q=>q,λ_ _ _ q=>q,λ_ ps q=>⟨#[],by rw[q];simp⟩⟩
def Un.refl:Un fs ex H H h h:=Un.kept λ_ _ q=>q
def Un.laid (k:∀ b u,h.get? b=some u->h'.get? b=some u) (hp:h.objs.size<=a) (hn:H a=none):Un fs ex H (upd H a o) h h' where
 keep:=λb u q _ _ _=>k b u q
 slot:=λb u q _ _ _=>⟨u.slots,k b u q⟩
 free:=λb u q n _=>by rw[ab (nb (lw (sn q) hp))];exact n
 there:=λb u q _=>⟨u,k b u q⟩
 tups:=λb xs q=>by rw[ab (aT q hn)];exact q
 frzs:=λb u xs q=>by rw[ab (aT q hn)];exact q
 tbls:=λb ps q=>⟨#[],by rw[ab (aT q hn),q];simp⟩
def Un.write (mu:xA (H x))(he:e=x\/H e=some (.own x))(k:∀ b u,b≠e->h.get? b=some u->h'.get? b=some u) (heo:∃ u,h'.get? e=some u):Un fs ex H (upd H x o) h h':=by
 have hx:∀ b,H b=none->b≠x:=λb n z=>by subst z;rw[n]at mu;exact mu
 have hb:∀ b,H b=none->b≠e:=λb n z=>by
  subst z;rcases he with r|r
  .exact hx b n r
  .rw[n]at r;cases r
 have hm:∀ b u,H b=some u->¬ xA (some u)->b≠x:=λb u q nm z=>by subst z;rw[q]at mu;exact nm mu
 refine⟨λb u q n _ _=>k b u (hb b n) q,λb u q n _ _=>⟨u.slots,k b u (hb b n) q⟩,λb u q n _=>by rw[ab (hx b n)];exact n,λb u q _=>?_,
  λb xs q=>by rw[ab (hm b _ q λz=>z)];exact q,λb u xs q=>by rw[ab (hm b _ q λz=>z)];exact q,λb ps q=>⟨#[],by rw[ab (hm b _ q λz=>z),q];simp⟩⟩
 by_cases hbe:b=e
 .subst hbe;exact heo
 .exact⟨u,k b u hbe q⟩
end
abbrev su (h:Heap)(H:Hp):List Addr:=(List.range h.objs.size).filter λa=>(H a).isSome
abbrev g9 (h:Heap)(H:Hp):Heap:=W.hideAll h (su h H)
def lp (h:Heap)(H:Hp):(g9 h H).objs.size=h.objs.size:=W.hideAll_size _ _
def nR {o:Obj}(e:h.get? b=some o)(n:H b=none):(g9 h H).get? b=some o:=
 W.hideAll_get _ e λhm=>by
  have q:(H b).isSome=true:=(List.mem_filter.mp hm).2;rw[n]at q;simp at q
def qg {o:Obj}(e:(g9 h H).get? b=some o):h.get? b=some o/\H b=none:=by
 have e':h.get? b=some o:=W.of_hideAll (su h H) e;refine⟨e',?_⟩;cases q:H b with
 |none=>rfl
 |some x=>
  have hm:b ∈ su h H:=List.mem_filter.mpr ⟨mem_range.mpr (sn e'),by simp[q]⟩;have z:(g9 h H).get? b=none:=W.hideAll_none (su h H) hm;rw[z]at e;cases e
structure Mod (K:W.Frag) (mg:AF) (base:Heap):Prop where
 kin:K.In base
 glob:base.Ns mainGlobals mg
 blt:∃ mb,base.Ns builtinsNs mb/\∀ x:Str,x≠"__name__"->mb x=bootBuiltins x
 nolimit:base.NoLimit
/-- the context:a def's body (or a comprehension's block) running. base:fixed through the whole law;s₀,H₀:the entry;outer:the frames whose slots others may change (a def's callers);stack:all frames that run;
  ex:iterators that were made ahead of the entry and are walked here (a comprehension's);fn:the names whose cells were made at the entry (a def:all;a comprehension's block:its own);calm:not within an except aA;pn:Y that every state bears;xe:what is wanted of an exception that leaves the code -/
structure Cx where
 prog:Program
 w:World
 K:W.Frag
 mg:Str->Option Value
 base:Heap
 A:Around
 N:List Str
 s₀:Shared
 H₀:Hp
 env:Env
 outer:List Env
 stack:List Env
 ex:List Addr
 fn:Str->Bool
 calm:Bool
 pn:List (Addr×Obj)
 xe:Value->Shared->Prop
abbrev gv (l:List Env):List Addr:=l.filterMap (·.frame)
noncomputable abbrev Cx.fs (X:Cx):List Addr:=gv X.outer
abbrev xV (sc:Scope)(x:Str):Prop:=sc.names.lookup x=some .local\/sc.names.lookup x=some .cell\/sc.names.lookup x=some .free
abbrev Loc (sc:Scope)(x:Str):Prop:=sc.names.lookup x=some .local\/sc.names.lookup x=some .cell
abbrev Look (env:Env)(h:Heap)(m:AF)(x:Str)(u:Value):Prop:=
 (env.kindOf x=some .local/\m x=some u)\/((env.kindOf x=some .cell\/env.kindOf x=some .free)/\∃ c,env.cells.lookup x=some c/\h.IsCell c (some u))
structure Cx.Ok (X:Cx):Prop where
 mod:Mod X.K X.mg X.base
 kind:X.env.scope.kind=.function
 glob:X.env.globals=mainGlobals
 blt:X.env.builtins=builtinsNs
 above:X.s₀.heap.objs.size<=X.env.locals
 inj:∀ x y c,X.env.cells.lookup x=some c->X.env.cells.lookup y=some c->x=y
 has:∀ x,(X.env.kindOf x=some .cell\/X.env.kindOf x=some .free)->∃ c,X.env.cells.lookup x=some c
 cab:∀ x c,X.fn x=true->X.env.cells.lookup x=some c->X.s₀.heap.objs.size<=c
 hd:X.calm=true->X.A.handled=none
 frames:X.A.frames=some X.stack
 stk:X.stack=X.outer\/(X.stack=X.env::X.outer/\X.env.frame=some X.env.locals)
 exf:∀ b ∈ X.ex,b≠X.env.locals/\∀ x c,X.env.cells.lookup x=some c->c≠b
 bs:∀ b o,X.base.get? b=some o->X.s₀.heap.get? b=some o/\X.H₀ b=none
 bsz:X.base.objs.size<=X.s₀.heap.objs.size
 noex:∀ b o,X.base.get? b=some o->b ∉ X.ex
 exfs:∀ b ∈ X.ex,b ∉ X.fs
 fj:X.s₀.heap.FunFrames X.base X.outer
 frf:∀ b ∈ X.fs,X.H₀ b=none
structure Inv (X:Cx) (Y:AE) (U:List (Option V)) (H:Hp) (s:Shared):Prop where
 ok:X.Ok
 os:s.os=X.s₀.os
 bare:AllBare s.gens
 base:Un X.fs X.ex X.H₀ H X.s₀.heap s.heap
 loc:∃ m,s.heap.Ns X.env.locals m/\∀ (i:Nat) (x:Str) (v:V),X.N[i]? =some x->U[i]? =some (some v)->xV X.env.scope x->∃ u,RelV v u/\Look X.env s.heap m x u
 cell:∀ x c,X.env.cells.lookup x=some c->∃ v,s.heap.IsCell c v
 free:H X.env.locals=none
 freeC:∀ x c,X.env.cells.lookup x=some c->H c=none
 pin:∀ p ∈ X.pn++Y,s.heap.get? p.1=some p.2/\H p.1=none/\p.1≠X.env.locals/\p.1 ∉ X.fs/\∀ v,p.2.data≠.cell v
 hok:cu X.prog X.w H s.heap
 len:U.length=X.N.length
variable {x:Str}{g':Array GenState}{ch:List Addr}{i:Nat}{M:Model}{A:Around}{E:AD}{v:V}
section
variable {X:Cx}{Y:AE}{U:List (Option V)}{H H':Hp}{s:Shared}{h':Heap}
def Cx.Ok.yu (ok:X.Ok){o:Obj}(e:X.base.get? b=some o):b ∉ X.fs:=λhb=>by
 have:=(ok.fj.mem hb).1;rw[e]at this;cases this
def Inv.bs (I:Inv X Y U H s):∀ b o,X.base.get? b=some o->s.heap.get? b=some o/\H b=none:=λb o e=>
 ⟨I.base.keep b o (I.ok.bs b o e).1 (I.ok.bs b o e).2 (I.ok.yu e) (I.ok.noex b o e),I.base.free b o (I.ok.bs b o e).1 (I.ok.bs b o e).2 (I.ok.noex b o e)⟩
def Inv.bk (I:Inv X Y U H s):∀ b o,X.base.get? b=some o->s.heap.get? b=some o:=λb o e=>(I.bs b o e).1
def Inv.mod (I:Inv X Y U H s):Mod X.K X.mg X.base:=I.ok.mod
def Inv.aJ (I:Inv X Y U H s):X.K.In s.heap:=I.ok.mod.kin.keeps I.bk
def Inv.lt (I:Inv X Y U H s):X.env.locals<s.heap.objs.size:=let⟨_,hn,_⟩:=I.loc;hn.lt
def Inv.sz (I:Inv X Y U H s):X.s₀.heap.objs.size<=s.heap.objs.size:=Nat.le_trans I.ok.above (Nat.le_of_lt I.lt)
def Inv.yo (I:Inv X Y U H s)(h:s.heap.objs.size<=a):a ∉ X.fs:=λhb=>by
 obtain⟨_,o,ho,_⟩:=I.ok.fj.mem hb;exact absurd (lw (sn ho) (Nat.le_trans I.sz h)) (Nat.lt_irrefl _)
def Inv.nj (I:Inv X Y U H s):∀ x c,X.env.cells.lookup x=some c->c≠X.env.locals:=λx c e z=>by
 obtain⟨v,o,ho,hd⟩:=I.cell x c e;obtain⟨m,⟨o',es,ep,ho',hd',_⟩,_⟩:=I.loc;rw[z,ho']at ho;cases ho;rw[hd']at hd;cases hd
def Inv.fj (I:Inv X Y U H s):s.heap.FunFrames X.base X.outer:=by
 have all:∀ (l:List Env),(∀ b ∈ gv l,b ∈ X.fs)->X.s₀.heap.FunFrames X.base l->s.heap.FunFrames X.base l:=by
  intro l
  induction l with
  |nil=>intro _ _;trivial
  |cons env r ih=>
   intro hs hl;obtain⟨hk,⟨L,o,hf,hn,ho,hd⟩,hr⟩:=hl;have hL:L ∈ X.fs:=hs L (by unfold gv;rw[filterMap_cons,hf];exact jp);obtain⟨sl,e⟩:=I.base.slot L o ho (I.ok.frf L hL) hL λz=>I.ok.exfs L z hL
   exact⟨hk,⟨L,_,hf,hn,e,hd⟩,ih (λb hb=>hs b (by unfold gv;rw[filterMap_cons,hf];exact db _ hb)) hr⟩
 exact all X.outer (λ_ hb=>hb) I.ok.fj
def Inv.stack (I:Inv X Y U H s):s.heap.FunFrames X.base X.stack:=by
 rcases I.ok.stk with e|⟨e,hf⟩
 .rw[e];exact I.fj
 .rw[e];obtain⟨m,hn,_⟩:=I.loc;refine .cons (by rw[I.ok.kind];decide) hf hn ?_ I.fj;exact Heap.get?_none_of_le (Nat.le_trans I.ok.bsz I.ok.above)
def Inv.c4 (I:Inv X Y U H s):∀ b ∈ gv X.stack,b ∈ X.env.locals::X.fs:=λb hb=>by
 rcases I.ok.stk with e|⟨e,hf⟩
 .rw[e]at hb;exact db _ hb
 .rw[e]at hb;unfold gv at hb;rw[filterMap_cons,hf]at hb;exact hb
def Inv.gI (I:Inv X Y U H s):∀ b ∈ gv X.stack,H b=none:=λb hb=>by
 rcases le.mp (I.c4 b hb) with e|hb
 .rw[e];exact I.free
 .obtain⟨_,o,ho,_⟩:=I.ok.fj.mem hb;exact I.base.free b o ho (I.ok.frf b hb) λz=>I.ok.exfs b z hb
def Inv.step {t':Nat}{d':Drawn}(I:Inv X Y U H s)
  (hch:∀ b ∈ ch,(b ∈ X.ex\/X.s₀.heap.objs.size<=b)/\b≠X.env.locals/\(∀ x c,X.env.cells.lookup x=some c->c≠b)/\∀ p ∈ X.pn++Y,p.1≠b)
  (keep:∀ b o,b≠X.env.locals->b ∉ X.fs->b ∉ ch->s.heap.get? b=some o->H b=none->h'.get? b=some o)
  (slot:∀ b o,b≠X.env.locals->b ∈ X.fs->b ∉ ch->s.heap.get? b=some o->H b=none->∃ sl,h'.get? b=some { o with slots:=sl }) (free:∀ b o,b ∉ ch->s.heap.get? b=some o->H b=none->H' b=none)
  (there:∀ b o,b ∉ ch->s.heap.get? b=some o->∃ o',h'.get? b=some o')
  (tups:∀ b xs,H b=some (.tup xs)->H' b=some (.tup xs)) (frzs:∀ b o u,H b=some (.fq o u)->H' b=some (.fq o u)) (tbls:∀ b ps,H b=some (.tbl ps)->∃ more,H' b=some (.tbl (ps++more)))
  (ns:∀ m,s.heap.Ns X.env.locals m->h'.Ns X.env.locals m) (hok:cu X.prog X.w H' h') (hg:AllBare g'):
  Inv X Y U H' { s with heap:=h',gens:=g',drawn:=d',toks:=t' }:=by
 have neL:∀ b o,X.s₀.heap.get? b=some o->b≠X.env.locals:=λb o e=>nb (lw (sn e) I.ok.above)
 have neC:∀ b o,X.s₀.heap.get? b=some o->b ∉ X.ex->b ∉ ch:=λb o e hx hb=>by
  rcases(hch b hb).1 with z|z
  .exact hx z
  .exact absurd (lw (sn e) z) (Nat.lt_irrefl _)
 have cellK:∀ x c,X.env.cells.lookup x=some c->∀ v,s.heap.IsCell c v->h'.IsCell c v:=λx c e v ⟨o,ho,hd⟩=>by
  have nch:c ∉ ch:=λz=>(hch c z).2.2.1 x c e rfl
  by_cases hc:c ∈ X.fs
  .obtain⟨sl,q⟩:=slot c o (I.nj x c e) hc nch ho (I.freeC x c e);exact⟨_,q,hd⟩
  .exact⟨o,keep c o (I.nj x c e) hc nch ho (I.freeC x c e),hd⟩
 refine⟨I.ok,I.os,hg,⟨λb o e n hb hx=>?_,λb o e n hb hx=>?_,λb o e n hx=>?_,λb o e hx=>?_,λb xs e=>tups b xs (I.base.tups b xs e),λb o xs e=>frzs b o xs (I.base.frzs b o xs e),λb ps e=>?_⟩,?_,λx c e=>?_,?_,λx c e=>?_,λp hp=>?_,hok,I.len⟩
 .exact keep b o (neL b o e) hb (neC b o e hx) (I.base.keep b o e n hb hx) (I.base.free b o e n hx)
 .obtain⟨sl,e1⟩:=I.base.slot b o e n hb hx;obtain⟨sl',e2⟩:=slot b _ (neL b o e) hb (neC b o e hx) e1 (I.base.free b o e n hx);exact⟨sl',e2⟩
 .obtain⟨o',e1⟩:=I.base.there b o e hx;exact free b o' (neC b o e hx) e1 (I.base.free b o e n hx)
 .obtain⟨o',e1⟩:=I.base.there b o e hx;exact there b o' (neC b o e hx) e1
 .obtain⟨m1,e1⟩:=I.base.tbls b ps e;obtain⟨m2,e2⟩:=tbls b _ e1;exact⟨m1++m2,by rw[e2,Array.append_assoc]⟩
 .obtain⟨m,hn,hl⟩:=I.loc;refine⟨m,ns m hn,λi x v e1 e2 e3=>?_⟩;obtain⟨u,r,l⟩:=hl i x v e1 e2 e3;refine⟨u,r,?_⟩;rcases l with l|⟨k,c,e,z⟩
  .exact .inl l
  .exact .inr ⟨k,c,e,cellK x c e _ z⟩
 .obtain⟨v,z⟩:=I.cell x c e;exact⟨v,cellK x c e v z⟩
 .obtain⟨m,⟨o,_,_,ho,_⟩,_⟩:=I.loc;exact free _ o (λz=>(hch _ z).2.1 rfl) ho I.free
 .obtain⟨v,o,ho,hd⟩:=I.cell x c e;exact free c o (λz=>(hch c z).2.2.1 x c e rfl) ho (I.freeC x c e)
 .obtain⟨e,n,ne,nf,d⟩:=I.pin p hp;have nch:p.1 ∉ ch:=λz=>(hch p.1 z).2.2.2 p hp rfl
  exact⟨keep p.1 p.2 ne nf nch e n,free p.1 p.2 nch e n,ne,nf,d⟩
def Inv.un {t':Nat}(I:Inv X Y U H s)(u:Un X.fs [] H H' s.heap h')(hok:cu X.prog X.w H' h'):Inv X Y U H' { s with heap:=h',toks:=t' }:=by
 obtain⟨m,⟨o,es,ep,ho,r⟩,_⟩:=id I.loc;obtain⟨sl,hL⟩:=u.any ho I.free (by simp);exact I.step (g':=s.gens) (d':=s.drawn) (ch:=[]) (λ_ z=>nomatch z) (λb o _ hb _ e n=>u.keep b o e n hb (by simp)) (λb o _ hb _ e n=>u.slot b o e n hb (by simp)) (λb o _ e n=>u.free b o e n (by simp)) (λb o _ e=>u.there b o e (by simp)) u.tups u.frzs u.tbls (λm' hm=>by
  obtain⟨o',es',ep',ho',r'⟩:=hm;rw[ho]at ho';cases ho';exact⟨_,es',ep',hL,r'⟩) hok I.bare
def Inv.call {t':Nat}{d':Drawn}(I:Inv X Y U H s)(u:Un (gv X.stack) ch H H' s.heap h')(hok:cu X.prog X.w H' h')(hg:AllBare g')
  (hch:∀ b ∈ ch,(b ∈ X.ex\/X.s₀.heap.objs.size<=b)/\b≠X.env.locals/\(∀ x c,X.env.cells.lookup x=some c->c≠b)/\∀ p ∈ X.pn++Y,p.1≠b):
  Inv X Y U H' { s with heap:=h',gens:=g',drawn:=d',toks:=t' }:=by
 obtain⟨m,⟨o,es,ep,ho,r⟩,_⟩:=id I.loc;obtain⟨sl,hL⟩:=u.any ho I.free λz=>(hch _ z).2.1 rfl
 exact I.step (ch:=ch) hch (λb o hL hb hc e n=>u.keep b o e n (λz=>(le.mp (I.c4 b z)).elim hL hb) hc) (λb o _ _ hc e n=>u.any e n hc) (λb o hc e n=>u.free b o e n hc) (λb o hc e=>u.there b o e hc) u.tups u.frzs u.tbls (λm' hm=>by
  obtain⟨o',es',ep',ho',r'⟩:=hm;rw[ho]at ho';cases ho';exact⟨_,es',ep',hL,r'⟩) hok hg
def Inv.turned {t':Nat}{it:Addr}(I:Inv X Y U H s)(k:∀ b o,b≠it->s.heap.get? b=some o->h'.get? b=some o) (hn:H it=none) (hL:it≠X.env.locals)
  (h1:it ∈ X.ex\/X.s₀.heap.objs.size<=it) (h2:∀ x c,X.env.cells.lookup x=some c->c≠it) (h3:∀ p ∈ X.pn++Y,p.1≠it):Inv X Y U H { s with heap:=h',toks:=t' }:=by
 have nit:∀ b u,H b=some u->b≠it:=λb u e z=>by rw[z,hn]at e;cases e
 refine I.step (g':=s.gens) (d':=s.drawn) (ch:=[it]) (λb hb=>?_) (λb o _ _ hc e _=>k b o (λz=>hc (by simp[z])) e) (λb o _ _ hc e _=>⟨o.slots,k b o (λz=>hc (by simp[z])) e⟩) (λ_ _ _ _ n=>n)
  (λb o hc e=>⟨o,k b o (λz=>hc (by simp[z])) e⟩) (λ_ _ e=>e) (λ_ _ _ e=>e) (λb ps e=>⟨#[],by rw[e];simp⟩) (λm hm=>?_) (λb u e=>?_) I.bare
 .have e:b=it:=by simpa using hb
  subst e;exact⟨h1,hL,h2,h3⟩
 .obtain⟨o,es,ep,ho,r⟩:=hm;exact⟨o,es,ep,k _ o (Ne.symm hL) ho,r⟩
 .refine(I.hok b u e).cJ (λc v hc q=>k c v ?_ q) (λ_ q=>q) λ_ _ q=>q
  rcases hc with z|z
  .rw[z];exact nit b u e
  .exact nit c _ z
def Inv.tok (I:Inv X Y U H s)(t:Nat):Inv X Y U H { s with toks:=t }:=I.un (h':=s.heap) (t':=t) Un.refl I.hok
def Inv.kept {t':Nat}(I:Inv X Y U H s)(k:∀ b u,s.heap.get? b=some u->h'.get? b=some u):Inv X Y U H { s with heap:=h',toks:=t' }:=I.un (Un.kept k) (I.hok.kept k)
def Inv.laid {t':Nat}(I:Inv X Y U H s)(k:∀ b u,s.heap.get? b=some u->h'.get? b=some u) (hp:s.heap.objs.size<=a) (new:ao X.prog X.w (upd H a o) h' a o):
  Inv X Y U (upd H a o) { s with heap:=h',toks:=t' }:=I.un (Un.laid k hp (I.hok.fresh hp)) (I.hok.laid k hp new)
def Inv.write {x e:Addr}{t':Nat}(I:Inv X Y U H s)(mu:xA (H x))(he:e=x\/H e=some (.own x))(k:∀ b u,b≠e->s.heap.get? b=some u->h'.get? b=some u) (heo:∃ u,h'.get? e=some u)
  (new:ao X.prog X.w (upd H x o) h' x o):Inv X Y U (upd H x o) { s with heap:=h',toks:=t' }:=I.un (Un.write mu he k heo) (I.hok.write mu he k heo new)
def Inv.gK {pins':AE}(I:Inv X Y U H s)(h:∀ p ∈ pins',s.heap.get? p.1=some p.2/\H p.1=none/\p.1≠X.env.locals/\p.1 ∉ X.fs/\∀ v,p.2.data≠.cell v):Inv X pins' U H s:=
 ⟨I.ok,I.os,I.bare,I.base,I.loc,I.cell,I.free,I.freeC,λp hp=>(mem_append.mp hp).elim (λz=>I.pin p (mem_append_left _ z)) (h p),I.hok,I.len⟩
def d7 {N:List Str}(hN:N.Nodup){j:Nat}(a:N[i]? =some x)(b:N[j]? =some x):i=j:=by
 obtain⟨h1,e1⟩:=pi.mp a;obtain⟨h2,e2⟩:=pi.mp b;exact(List.getElem_inj hN).mp (e1.trans e2.symm)
variable {Q:AB}
def gd (I:Inv X Y U H s)(hN:X.N.Nodup)(hi:X.N[i]? =some x)(hx:Loc X.env.scope x)(r:RelV v u)
  (h:∀ s',Inv X Y (U.set i (some v)) H s'->(∃ a,Heap.SameBut a s.heap s'.heap/\(a=X.env.locals\/X.env.cells.lookup x=some a))->Q () s') (hf:X.fn x=true\/X.env.scope.names.lookup x=some .local:=by first|exact .inl rfl|exact .inr rfl|assumption):wpAny M A (storeName X.env x u) Q E s:=by
 obtain⟨m,hn,hl⟩:=id I.loc;have hcls:(X.env.scope.kind ==.class||(X.env.scope.kind ==.module&&X.env.locals != X.env.globals))=false:=by rw[I.ok.kind];rfl
 have hiσ:i<U.length:=by rw[I.len];exact(pi.mp hi).1
 have nj:=I.nj;have tracked:∀ {a:Addr}{h':Heap},(∃ o,s.heap.get? a=some o/\H a=none)->Heap.SameBut a s.heap h'->cu X.prog X.w H h':=λ{a h'} ha hs b ob e=>by
  obtain⟨_,_,hfree⟩:=ha;refine(I.hok b ob e).cJ (λc w' hc q=>(hs.2 c ?_).trans q) (λ_ q=>q) λ_ _ q=>q
  rintro rfl;rcases hc with rfl|hc
  .rw[hfree]at e;cases e
  .rw[hfree]at hc;cases hc
 rcases hx with hk|hk
 .refine wpAny_storeName_local hk hn (λh' hn' hs=>?_) hcls;obtain⟨oL,_,_,hoL,_⟩:=id hn;refine h _ ⟨I.ok,I.os,I.bare,⟨λb o e n hb hx=>?_,λb o e n hb hx=>?_,I.base.free,λb o e hx=>?_,I.base.tups,I.base.frzs,I.base.tbls⟩,⟨_,hn',λj y v' e1 e2 e3=>?_⟩,λy c e=>?_,I.free,I.freeC,λp hp=>?_,tracked ⟨oL,hoL,I.free⟩ hs,by simpa using I.len⟩ ⟨_,hs,.inl rfl⟩
  .exact(hs.2 b (nb (lw (sn e) I.ok.above))).trans (I.base.keep b o e n hb hx)
  .obtain⟨sl,e1⟩:=I.base.slot b o e n hb hx;exact⟨sl,(hs.2 b (nb (lw (sn e) I.ok.above))).trans e1⟩
  .obtain⟨o',e1⟩:=I.base.there b o e hx;exact⟨o',(hs.2 b (nb (lw (sn e) I.ok.above))).trans e1⟩
  .by_cases hj:j=i
   .subst hj;rw[hi]at e1;cases e1;rw[getElem?_set_self hiσ]at e2;cases e2;exact⟨u,r,.inl ⟨hk,by simp⟩⟩
   .rw[getElem?_set_ne (Ne.symm hj)]at e2;obtain⟨u',r',q⟩:=hl j y v' e1 e2 e3;refine⟨u',r',?_⟩;rcases q with⟨k,e⟩|⟨k,c,e,z⟩
    .refine .inl ⟨k,?_⟩;have:y≠x:=λe=>hj (d7 hN e1 (e▸hi))
     simp[this,e]
    .exact .inr ⟨k,c,e,z.sameBut hs (nj y c e)⟩
  .obtain⟨w',z⟩:=I.cell y c e;exact⟨w',z.sameBut hs (nj y c e)⟩
  .obtain⟨e,n,ne,nf,d⟩:=I.pin p hp;exact⟨(hs.2 p.1 ne).trans e,n,ne,nf,d⟩
 .have hfn:X.fn x=true:=by
   rcases hf with z|z
   .exact z
   .rw[z]at hk;cases hk
  obtain⟨c,hc⟩:=I.ok.has x (.inl hk);obtain⟨w',z⟩:=I.cell x c hc;refine wpAny_storeName_cell I.ok.kind hk hc z (λh' hc' hs=>?_);obtain⟨oc,hoc,hocd⟩:=id z;refine h { s with heap:=h' } ⟨I.ok,I.os,I.bare,⟨λb o e n hb hx=>?_,λb o e n hb hx=>?_,I.base.free,λb o e hx=>?_,I.base.tups,I.base.frzs,I.base.tbls⟩,⟨m,hn.sameBut hs (Ne.symm (nj x c hc)),λj y v' e1 e2 e3=>?_⟩,λy c' e=>?_,I.free,I.freeC,λp hp=>?_,tracked ⟨oc,hoc,I.freeC x c hc⟩ hs,by simpa using I.len⟩ ⟨c,hs,.inr hc⟩
  .exact(hs.2 b (nb (lw (sn e) (I.ok.cab x c hfn hc)))).trans (I.base.keep b o e n hb hx)
  .obtain⟨sl,e1⟩:=I.base.slot b o e n hb hx;exact⟨sl,(hs.2 b (nb (lw (sn e) (I.ok.cab x c hfn hc)))).trans e1⟩
  .obtain⟨o',e1⟩:=I.base.there b o e hx;exact⟨o',(hs.2 b (nb (lw (sn e) (I.ok.cab x c hfn hc)))).trans e1⟩
  .by_cases hj:j=i
   .subst hj;rw[hi]at e1;cases e1;rw[getElem?_set_self hiσ]at e2;cases e2;exact⟨u,r,.inr ⟨.inl hk,c,hc,hc'⟩⟩
   .rw[getElem?_set_ne (Ne.symm hj)]at e2;obtain⟨u',r',q⟩:=hl j y v' e1 e2 e3;refine⟨u',r',?_⟩;rcases q with q|⟨k,c',e,z'⟩
    .exact .inl q
    .refine .inr ⟨k,c',e,z'.sameBut hs ?_⟩;rintro rfl;exact hj (d7 hN e1 (I.ok.inj _ _ _ e hc▸hi))
  .by_cases hcc:c'=c
   .subst hcc;exact⟨_,hc'⟩
   .obtain⟨w2,z2⟩:=I.cell y c' e;exact⟨w2,z2.sameBut hs hcc⟩
  .obtain⟨e,n,ne,nf,d⟩:=I.pin p hp;refine⟨(hs.2 p.1 ?_).trans e,n,ne,nf,d⟩;intro q;rw[q,hoc]at e;have q':oc=p.2:=Option.some.inj e;exact d w' (by rw[<-q'];exact hocd)
def cT (I:Inv X Y U H s)(hN:X.N.Nodup)(hi:X.N[i]? =some x)(hx:Loc X.env.scope x)(r:RelV v u)
  (h:∀ s',Inv X Y (U.set i (some v)) H s'->Q () s') (hf:X.fn x=true\/X.env.scope.names.lookup x=some .local:=by first|exact .inl rfl|exact .inr rfl|assumption):wpAny M A (storeName X.env x u) Q E s:=
 gd I hN hi hx r (λs' I' _=>h s' I') hf
def Inv.pq {s':Shared}(I:Inv X Y U H s)(ho:s'.os=s.os)(u:Un (gv X.stack) ch H H' s.heap s'.heap)(hok:cu X.prog X.w H' s'.heap)(hg:AllBare s'.gens)
  (hch:∀ b ∈ ch,(b ∈ X.ex\/X.s₀.heap.objs.size<=b)/\b≠X.env.locals/\(∀ x c,X.env.cells.lookup x=some c->c≠b)/\∀ p ∈ X.pn++Y,p.1≠b):Inv X Y U H' s':=by
 obtain⟨h',g',d',t',o'⟩:=s';have e:o'=s.os:=ho;subst e;exact I.call (g':=g') (t':=t') (d':=d') u hok hg hch
end
@[reducible]def XK:=Addr->Hp->Prop
@[reducible]def St:=List (Option V)
@[reducible]def VK:=V->Hp->Prop
@[reducible]def TE:=St->Hp->VK->Prop
@[reducible]def TT:=St->Hp->(Bool->Hp->Prop)->Prop
@[reducible]def TA:=St->Hp->(List V->Hp->Prop)->Prop
structure Ends where
 nx:St->Hp->Prop
 rt:VK
 bk:St->Hp->Prop:=λ_ _=>False
 ct:St->Hp->Prop:=λ_ _=>False
@[reducible]def TS:=Ends->St->Hp->Prop
abbrev EP (X:Cx)(Y:AE)(U:St)(Q:VK)(u:Value)(s':Shared):Prop:=∃ v H',Inv X Y U H' s'/\RelV v u/\Q v H'
abbrev TP (X:Cx)(Y:AE)(U:St)(Q:Bool->Hp->Prop)(b:Bool)(s':Shared):Prop:=∃ H',Inv X Y U H' s'/\Q b H'
abbrev AP (X:Cx)(Y:AE)(U:St)(Q:List V->Hp->Prop)(us:List Value)(s':Shared):Prop:=∃ vs H',Inv X Y U H' s'/\Vals vs us/\Q vs H'
abbrev SP (X:Cx)(Y:AE)(D:Ends)(f:Flow)(s':Shared):Prop:=
 match f with
 | .next=>∃ σ' H',Inv X Y σ' H' s'/\D.nx σ' H'
 | .brk=>∃ σ' H',Inv X Y σ' H' s'/\D.bk σ' H'
 | .cont=>∃ σ' H',Inv X Y σ' H' s'/\D.ct σ' H'
 | .ret u=>∃ v σ' H',Inv X Y σ' H' s'/\RelV v u/\D.rt v H'
abbrev PE (X:Cx)(e:Expr)(t:TE):Prop:=
 ∀ (Y:AE) (s:Shared) (U:St) (H:Hp) (Q:VK),Inv X Y U H s->t U H Q->wpAny (model X.prog X.w) X.A (eval e X.env) (EP X Y U Q) X.xe s
abbrev PT (X:Cx)(e:Expr)(t:TT):Prop:=
 ∀ (Y:AE) (s:Shared) (U:St) (H:Hp) (Q:Bool->Hp->Prop),Inv X Y U H s->t U H Q->wpAny (model X.prog X.w) X.A (isTrue e X.env (eval e X.env)) (TP X Y U Q) X.xe s
abbrev PW (X:Cx)(e:Expr)(t:TT):Prop:=
 ∀ (whole:Sem Value) (Y:AE) (s:Shared) (U:St) (H:Hp) (Q:Bool->Hp->Prop),Inv X Y U H s->t U H Q->wpAny (model X.prog X.w) X.A (isTrue e X.env whole) (TP X Y U Q) X.xe s
variable {e:Expr}
def PW.pt {X:Cx}{t:TT}(h:PW X e t):PT X e t:=h _
abbrev PA (X:Cx)(es:List Expr)(t:TA):Prop:=
 ∀ (pos:Pos) (Y:AE) (s:Shared) (U:St) (H:Hp) (Q:List V->Hp->Prop),Inv X Y U H s->t U H Q->wpAny (model X.prog X.w) X.A (spliced (backTo pos (bi es X.env))) (AP X Y U Q) X.xe s
abbrev PS (X:Cx)(st:Stmt)(t:TS):Prop:=
 ∀ (Y:AE) (s:Shared) (U:St) (H:Hp) (D:Ends),Inv X Y U H s->t D U H->wpAny (model X.prog X.w) X.A (exec st X.env) (SP X Y D) X.xe s
abbrev sq (X:Cx)(st:List Stmt)(t:TS):Prop:=
 ∀ (Y:AE) (s:Shared) (U:St) (H:Hp) (D:Ends),Inv X Y U H s->t D U H->wpAny (model X.prog X.w) X.A (execs st X.env) (SP X Y D) X.xe s
variable {s:Shared}
def ak {α:Type}{t:Sem α}{Q Q':α->Shared->Prop}(h:wpAny M A t Q E s)(hQ:∀ a s,Q a s->Q' a s):wpAny M A t Q' E s:=wpAny_mono h hQ λ_ _ x=>x
variable {Q:AD}{Y:AE}{U:St}
section
variable {X:Cx}
abbrev yR (i:Nat):TE:=λU H Q=>∃ v,U[i]? =some (some v)/\Q v H
abbrev tC (v:V):TE:=λ_ H Q=>Q v H
def vc {pos:Pos}(hN:X.N[i]? =some x)(hv:xV X.env.scope x)(hd:(x ==("__debug__":Str))=false:=by decide) (hcd:(x ==("__classdict__":Str))=false:=by decide):PE X (.Name x pos) (yR i):=by
 intro Y s U H Q I h;obtain⟨v,e,h⟩:=h;obtain⟨m,hn,hl⟩:=I.loc;obtain⟨u,r,l⟩:=hl i x v hN e hv;have fin:EP X Y U Q u s:=⟨v,H,I,r,h⟩;rcases l with⟨hk,hm⟩|⟨hk,c,hc,hcell⟩
 .exact wpAny_Name (wpAny_loadName_local I.ok.kind hk hn hm fin) hd
 .rcases hk with hk|hk
  .exact wpAny_Name (wpAny_loadName_cell I.ok.kind hk hc hcell fin) hd
  .exact wpAny_Name (wpAny_loadName_free I.ok.kind hk hc hcell fin hcd) hd
def vE {i j pos}:PE X (.Constant (.int i) j pos) (tC (.int i)):=λ_ _ _ H _ I h=>wpAny_Constant_int ⟨.int i,H,I.tok _,⟨_,rfl⟩,h⟩
def w8 {b j pos}:PE X (.Constant (.bool b) j pos) (tC (.bl b)):=λ_ _ _ H _ I h=>Constant_bool ⟨.bl b,H,I,rfl,h⟩
def uJ {j pos}:PE X (.Constant .none j pos) (tC .non):=λ_ _ _ H _ I h=>Constant_none ⟨.non,H,I,rfl,h⟩
def o4 {x j pos}:PE X (.Constant (.str x) j pos) (tC (.str x)):=λ_ _ _ H _ I h=>Calls.Constant_str ⟨.str x,H,I.tok _,⟨_,rfl⟩,h⟩
abbrev Gl (X:Cx)(x:Str):Prop:=X.env.kindOf x=some .globalImplicit
def aI {pos:Pos}(I:Inv X Y U H s)(hg:Gl X x)(hm:X.mg x=some u)(h:Q u s)
  (hd:(x ==("__debug__":Str))=false:=by decide):wpAny (model X.prog X.w) X.A (eval (.Name x pos) X.env) Q E s:=
 Calls.Name_function_global I.ok.kind hg (Calls.loadGlobal_global (by rw[I.ok.glob];exact I.mod.glob.keeps I.bk) hm h) hd
def eG {pos:Pos}(I:Inv X Y U H s)(hg:Gl X x)(hm:X.mg x=none)(hv:bootBuiltins x=some u)(h:Q u s)
  (hn:x≠"__name__":=by decide) (hd:(x ==("__debug__":Str))=false:=by decide):wpAny (model X.prog X.w) X.A (eval (.Name x pos) X.env) Q E s:=by
 obtain⟨mb,h1,h2⟩:=I.mod.blt;exact Calls.Name_function_global I.ok.kind hg (Calls.loadGlobal_builtin (by rw[I.ok.glob];exact I.mod.glob.keeps I.bk) hm (by rw[I.ok.blt];exact h1.keeps I.bk) ((h2 x hn).trans hv) h) hd
def ku {pos:Pos}(hg:Gl X x)(hm:X.mg x=some u)(r:RelV v u)(hd:(x ==("__debug__":Str))=false:=by decide):PE X (.Name x pos) (tC v):=
 λ_ _ _ H _ I h=>aI I hg hm ⟨v,H,I,r,h⟩ hd
def pW {pos:Pos}(hg:Gl X x)(hm:X.mg x=none)(hv:bootBuiltins x=some u)(r:RelV v u)(hn:x≠"__name__":=by decide) (hd:(x ==("__debug__":Str))=false:=by decide):PE X (.Name x pos) (tC v):=
 λ_ _ _ H _ I h=>eG I hg hm hv ⟨v,H,I,r,h⟩ hn hd
variable {a b:Expr}{ta tb:TE}{pos:Pos}
variable {tA tB':TT}{rest:List Expr}
abbrev yn (t u:TT):TT:=λU H Q=>t U H λc H1=>if c=true then u U H1 Q else Q false H1
abbrev zP (t u:TT):TT:=λU H Q=>t U H λc H1=>if c=true then Q true H1 else u U H1 Q
abbrev yG (t:TT):TT:=λU H Q=>t U H λc H1=>Q (!c) H1
def qv (ha:PT X a tA):PW X (.BoolOp .And [a] pos) tA:=by
 intro wh Y s U H Q I h;refine isTrue_and (ak (ha Y s U H Q I h) λc s1 e=>?_);cases c with
 |true=>exact isTrue_and_nil e
 |false=>exact e
def vB (ha:PT X a tA):PW X (.BoolOp .Or [a] pos) tA:=by
 intro wh Y s U H Q I h;refine isTrue_or (ak (ha Y s U H Q I h) λc s1 e=>?_);cases c with
 |false=>exact isTrue_or_nil e
 |true=>exact e
def tH (ha:PT X a tA)(hb:PW X (.BoolOp .And (b::rest) pos) tB'):PW X (.BoolOp .And (a::b::rest) pos) (yn tA tB'):=by
 intro wh Y s U H Q I h;refine isTrue_and (ak (ha Y s U H _ I h) λc s1 ⟨H1,I1,q1⟩=>?_);cases c with
 |true=>exact hb wh Y s1 U H1 Q I1 q1
 |false=>exact⟨H1,I1,q1⟩
def wU (ha:PT X a tA)(hb:PW X (.BoolOp .Or (b::rest) pos) tB'):PW X (.BoolOp .Or (a::b::rest) pos) (zP tA tB'):=by
 intro wh Y s U H Q I h;refine isTrue_or (ak (ha Y s U H _ I h) λc s1 ⟨H1,I1,q1⟩=>?_);cases c with
 |true=>exact⟨H1,I1,q1⟩
 |false=>exact hb wh Y s1 U H1 Q I1 q1
def vH (ha:PT X a tA):PT X (.UnaryOp .Not a pos) (yG tA):=by
 intro Y s U H Q I h;exact isTrue_not (ha Y s U H (λc H1=>Q (!c) H1) I h)
abbrev wY (ta tb:TE):TE:=λU H Q=>ta U H λx H1=>∃ c,x=.bl c/\if c=true then tb U H1 Q else Q (.bl false) H1
abbrev ze (ta tb:TE):TE:=λU H Q=>ta U H λx H1=>∃ c,x=.bl c/\if c=true then Q (.bl true) H1 else tb U H1 Q
abbrev wq (ta:TE):TE:=λU H Q=>ta U H λx H1=>∃ c,x=.bl c/\Q (.bl (!c)) H1
def mR {op}{t:TE}(h:PE X a t):PE X (.BoolOp op [a] pos) t:=λY s U H Q I hw=>BoolOp_one (h Y s U H Q I hw)
def t7 (ha:PE X a ta)(hb:PE X (.BoolOp .And (b::rest) pos) tb):PE X (.BoolOp .And (a::b::rest) pos) (wY ta tb):=by
 intro Y s U H Q I h;refine BoolOp_and (ak (ha Y s U H _ I h) λv s1 ⟨x,H1,I1,r1,q1⟩=>?_);obtain⟨c,rfl,q1⟩:=q1;cases r1;refine be ?_;cases c with
 |true=>exact hb Y s1 U H1 Q I1 q1
 |false=>exact⟨.bl false,H1,I1,rfl,q1⟩
def w9 (ha:PE X a ta)(hb:PE X (.BoolOp .Or (b::rest) pos) tb):PE X (.BoolOp .Or (a::b::rest) pos) (ze ta tb):=by
 intro Y s U H Q I h;refine BoolOp_or (ak (ha Y s U H _ I h) λv s1 ⟨x,H1,I1,r1,q1⟩=>?_);obtain⟨c,rfl,q1⟩:=q1;cases r1;refine be ?_;cases c with
 |false=>exact hb Y s1 U H1 Q I1 q1
 |true=>exact⟨.bl true,H1,I1,rfl,q1⟩
def uw (ha:PE X a ta):PE X (.UnaryOp .Not a pos) (wq ta):=by
 intro Y s U H Q I h;refine UnaryOp_ (ak (ha Y s U H _ I h) λv s1 ⟨x,H1,I1,r1,q1⟩=>?_);obtain⟨c,rfl,q1⟩:=q1;cases r1;exact not_of (be ⟨.bl (!c),H1,I1,rfl,q1⟩)
abbrev zT (t:TT)(ta tb:TE):TE:=λU H Q=>t U H λc H1=>if c=true then ta U H1 Q else tb U H1 Q
def nZ {c:Expr}(hc:PT X c tA)(ha:PE X a ta)(hb:PE X b tb):PE X (.IfExp c a b pos) (zT tA ta tb):=by
 intro Y s U H Q I h;refine wpAny_IfExp (ak (hc Y s U H _ I h) λd s1 ⟨H1,I1,q1⟩=>?_);cases d with
 |true=>exact ha Y s1 U H1 Q I1 q1
 |false=>exact hb Y s1 U H1 Q I1 q1
end
abbrev ax (K:W.Frag)(H:Hp)(a:Addr)(xs:List V):Prop:=
 Rd H a (.lst xs)\/
  ∃ (o:Obj) (its:Array Value) (n:Nat),K.lookup a=some o/\o.cls=.type "list"/\o.dict=none/\o.data=.seq its n/\its.size<=bm/\Vals xs its.toList
abbrev a9 (K:W.Frag)(H:Hp)(a:Addr)(xs:List V):Prop:=
 Rd H a (.tup xs)\/
  ∃ (o:Obj) (its:Array Value) (n:Nat),K.lookup a=some o/\o.cls=.type "tuple"/\o.data=.seq its n/\its.size<=bm/\Vals xs its.toList
abbrev yt:Value->Option V
 | .none=>some .non
 | .bool b=>some (.bl b)
 | .int i _=>some (.int i)
 | .str x _=>some (.str x)
 | .bytes b _=>some (.byt b)
 | .float b _=>some (.flt b)
 | .ref a=>some (.ref a)
 | .type n=>some (.ty n)
 |_=>none
def RelV.abs {x:V}(r:RelV x u):yt u=some x:=by
 cases x with
 |non=>cases r;rfl
 |bl _=>cases r;rfl
 |int _=>obtain⟨t,rfl⟩:=r;rfl
 |str _=>obtain⟨t,rfl⟩:=r;rfl
 |byt _=>obtain⟨t,rfl⟩:=r;rfl
 |flt _=>obtain⟨t,rfl⟩:=r;rfl
 |ref _=>cases r;rfl
 |ty _=>cases r;rfl
def RelV.inj {x y:V}(r:RelV x u)(q:RelV y u):x=y:=Option.some.inj (r.abs.symm.trans q.abs)
def Vals.inj:∀ {xs ys:List V}{us:List Value},Vals xs us->Vals ys us->xs=ys
 |_,_,_,.nil,.nil=>rfl
 |_,_,_,.cons r t,.cons r' t'=>by rw[r.inj r',Vals.inj t t']
variable {K:W.Frag}
section
variable {X:Cx}{Y:AE}{U:St}{H:Hp}{s:Shared}{a:Addr}{xs ys:List V}
def ax.of (h:H a=some (.lst xs)):ax K H a xs:=.inl (.inl h)
def a9.of (h:H a=some (.tup xs)):a9 K H a xs:=.inl (.inl h)
def Inv.list (I:Inv X Y U H s)(h:ax X.K H a xs):∃ its:List Value,Vals xs its/\PlainL s.heap a its.toArray/\xs.length<=bm:=by
 rcases h with h|⟨o,its,n,hk,hc,hd,hs,hz,r⟩
 .obtain⟨z,its,n,r,e⟩:=h.ok I.hok;exact⟨its,r,⟨_,n,e,rfl,rfl,rfl⟩,z⟩
 .refine⟨its.toList,r,⟨o,n,I.aJ a o hk,hc,hd,by simpa using hs⟩,?_⟩;have e:=r.length;simp only[Array.length_toList]at e
  omega
def Inv.tuple (I:Inv X Y U H s)(h:a9 X.K H a xs):∃ its:List Value,Vals xs its/\IsTup s.heap a its.toArray/\xs.length<=bm:=by
 rcases h with h|⟨o,its,n,hk,hc,hs,hz,r⟩
 .obtain⟨z,its,r,p⟩:=h.ok I.hok;exact⟨its,r,p,z⟩
 .refine⟨its.toList,r,⟨o,I.aJ a o hk,hc,n,by simpa using hs⟩,?_⟩;have e:=r.length;simp only[Array.length_toList]at e
  omega
def Inv.iN (I:Inv X Y U H s)(h:ax X.K H a xs)(h':ax X.K H a ys):xs=ys:=by
 obtain⟨its,r,⟨o,n,e,_,_,d⟩,_⟩:=I.list h;obtain⟨its',r',⟨o',n',e',_,_,d'⟩,_⟩:=I.list h';rw[e]at e';cases e';rw[d]at d'
 injection d' with d1 _
 have:its=its':=by simpa using congrArg Array.toList d1
 subst this;exact r.inj r'
def Inv.fU (I:Inv X Y U H s)(h:a9 X.K H a xs)(h':a9 X.K H a ys):xs=ys:=by
 obtain⟨its,r,⟨o,e,_,n,d⟩,_⟩:=I.tuple h;obtain⟨its',r',⟨o',e',_,n',d'⟩,_⟩:=I.tuple h';rw[e]at e';cases e';rw[d]at d'
 injection d' with d1 _
 have:its=its':=by simpa using congrArg Array.toList d1
 subst this;exact r.inj r'
end
section
variable {X:Cx}{Y:AE}{U:St}{H:Hp}{s:Shared}{E:AD}
end
section
variable {X:Cx}{st:Stmt}{rest:List Stmt}{t u:TS}{e:Expr}{te:TE}{pos:Pos}
abbrev xt:TS:=λD U H=>D.nx U H
abbrev yp (t u:TS):TS:=λD U H=>t { D with nx:=u D } U H
def qA:sq X [] xt:=λ_ _ U H _ I h=>wpAny_execs_nil ⟨U,H,I,h⟩
def oB (h1:PS X st t)(h2:sq X rest u):sq X (st::rest) (yp t u):=by
 intro Y s U H D I h;refine wpAny_execs_cons (ak (h1 Y s U H { D with nx:=u D } I h) λf s1 q=>?_);cases f with
 |next=>
  obtain⟨σ',H',I',q⟩:=q;exact h2 Y s1 σ' H' D I' q
 |ret v=>exact q
 |brk=>exact q
 |cont=>exact q
def Inv.quiet (I:Inv X Y U H s):interactive X.env=false:=by simp[interactive,I.ok.kind]
abbrev wV (te:TE):TS:=λD U H=>te U H λ_ H1=>D.nx U H1
def qI (he:PE X e te)(hs:swapsWith e none pos.line X.env=pure false:=by rfl):PS X (.Expr e pos) (wV te):=by
 intro Y s U H D I h;exact wpAny_Expr_any (ak (he Y s U H _ I h) λv s1 ⟨x,H1,I1,r1,q1⟩=>⟨U,H1,I1,q1⟩) I.quiet hs
abbrev yJ (te:TE):TS:=λD U H=>te U H D.rt
def vL (he:PE X e te):PS X (.Return (some e) pos) (yJ te):=by
 intro Y s U H D I h;exact wpAny_Return_some (ak (he Y s U H _ I h) λv s1 ⟨x,H1,I1,r1,q1⟩=>⟨x,U,H1,I1,r1,q1⟩)
abbrev yL (c:TT)(t u:TS):TS:=λD U H=>c U H λb H1=>if b=true then t D U H1 else u D U H1
def wk {c:Expr}{a b:List Stmt}{tc:TT}(hc:PT X c tc)(ha:sq X a t)(hb:sq X b u):PS X (.If c a b pos) (yL tc t u):=by
 intro Y s U H D I h;refine wpAny_If (ak (hc Y s U H _ I h) λd s1 ⟨H1,I1,q1⟩=>?_);cases d with
 |true=>exact ha Y s1 U H1 D I1 q1
 |false=>exact hb Y s1 U H1 D I1 q1
end
@[reducible]def TG:=V->St->Hp->(St->Hp->Prop)->Prop
@[reducible]def qZ:=List V->St->Hp->(St->Hp->Prop)->Prop
abbrev PG (X:Cx)(target:Expr)(t:TG):Prop:=
 ∀ (Y:AE) (s:Shared) (U:St) (H:Hp) (v:V) (u:Value) (Q:St->Hp->Prop),Inv X Y U H s->RelV v u->t v U H Q->
  wpAny (model X.prog X.w) X.A (assign target X.env u) (λ_ s'=>∃ σ' H',Inv X Y σ' H' s'/\Q σ' H') X.xe s
abbrev t6 (X:Cx)(ts:List Expr)(t:qZ):Prop:=
 ∀ (Y:AE) (s:Shared) (U:St) (H:Hp) (vs:List V) (us:List Value) (Q:St->Hp->Prop),Inv X Y U H s->Vals vs us->t vs U H Q->
  wpAny (model X.prog X.w) X.A (assignInOrder ((assignEach ts X.env).map (·.2)) us) (λ_ s'=>∃ σ' H',Inv X Y σ' H' s'/\Q σ' H') X.xe s
@[reducible]def lS:=V->V->V->Hp->(Hp->Prop)->Prop
abbrev pH (X:Cx)(t:lS):Prop:=
 ∀ (Y:AE) (s:Shared) (U:St) (H:Hp) (o i v:V) (ov iv u:Value) (Q:Hp->Prop),Inv X Y U H s->RelV o ov->RelV i iv->RelV v u->t o i v H Q->
  wpAny (model X.prog X.w) X.A (setItem ov iv u) (λ_ s'=>∃ H',Inv X Y U H' s'/\Q H') X.xe s
@[reducible]def yf:=V->V->Hp->VK->Prop
abbrev ye (X:Cx)(op:Operator)(t:yf):Prop:=
 ∀ (Y:AE) (s:Shared) (U:St) (H:Hp) (x y:V) (v u:Value) (Q:VK),Inv X Y U H s->RelV x v->RelV y u->t x y H Q->
  wpAny (model X.prog X.w) X.A (inplaceOp op v u) (EP X Y U Q) X.xe s
variable {es:List Expr}{k:Nat}{tg:Expr}{te:TE}
section
variable {X:Cx}{pos:Pos}
abbrev cW (i:Nat):TG:=λv U H Q=>Q (U.set i (some v)) H
def cN (hN:X.N.Nodup)(hi:X.N[i]? =some x)(hx:Loc X.env.scope x)(hf:X.fn x=true\/X.env.scope.names.lookup x=some .local:=by first|exact .inl rfl|exact .inr rfl|assumption):PG X (.Name x pos) (cW i):=by
 intro Y s U H v u Q I r h;exact wpAny_assign_Name (cT I hN hi hx r (λs' I'=>⟨_,H,I',h⟩) hf)
abbrev zh:qZ:=λvs U H Q=>vs=[]/\Q U H
abbrev xN (t:TG)(u:qZ):qZ:=λvs U H Q=>∃ v r,vs=v::r/\t v U H λσ' H'=>u r σ' H' Q
def gX:t6 X [] zh:=by
 intro Y s U H vs us Q I r h;obtain⟨e,h⟩:=h;subst e;cases r;exact assignInOrder_nil ⟨U,H,I,h⟩
def cP {t:TG}{u:qZ}(h1:PG X e t)(h2:t6 X es u)
  (hs:(assignEach (e::es) X.env).map (·.2)=assign e X.env::(assignEach es X.env).map (·.2):=by rfl):t6 X (e::es) (xN t u):=by
 intro Y s U H vs us Q I r h;obtain⟨v,vr,e1,h⟩:=h;subst e1;cases r with
 |cons r rr=>
  rw[hs];refine assignInOrder_cons (ak (h1 Y s U H _ _ _ I r h) λ_ s1 ⟨σ1,H1,I1,q1⟩=>?_);exact h2 Y s1 σ1 H1 _ _ Q I1 rr q1
abbrev rP (K:W.Frag)(n:Nat)(t:qZ):TG:=λv U H Q=>∃ a xs,v=.ref a/\a9 K H a xs/\xs.length=n/\t xs U H Q
def gu {t:qZ}{n:Nat}(hc:X.calm=true)(h:t6 X es t)
  (hn:(assignEach es X.env).length=n:=by rfl) (hst:(assignEach es X.env).findIdx? (·.1)=none:=by rfl):PG X (.Tuple es k pos) (rP X.K n t):=by
 intro Y s U H v u Q I r hw;obtain⟨a,xs,e1,hq,hl,hw⟩:=hw;subst e1;cases r;obtain⟨its,rv,ht,hz⟩:=I.tuple hq;refine assign_Tuple_tuple (I.ok.hd hc) ht (by simp[hn,<-hl,rv.length]) hst λh' hx=>?_
 have I1:Inv X Y U H { s with heap:=h' }:=I.kept (t':=s.toks) λb o e=>hx b o (nb (sn e)) e
 exact h Y _ U H xs _ Q I1 (by simpa using rv) hw
abbrev zf (to ti:TE)(t:lS):TG:=λv U H Q=>to U H λo H1=>ti U H1 λi H2=>t o i v H2 λH3=>Q U H3
def uA {o i:Expr}{to ti:TE}{t:lS}(ho:PE X o to)(hi:PE X i ti)(hs:pH X t)
  (ha:∀ v,assign (.Subscript o i pos) X.env v=(do
   let ov <-holding [v] (eval o X.env)
   let iv <-holding [v,ov] (eval i X.env)
   standAt pos
   holding [v,ov,iv] (setItem ov iv v)
   release [v,ov,iv] []):=by intro _;rfl):PG X (.Subscript o i pos) (zf to ti t):=by
 intro Y s U H v u Q I r h;rw[ha];refine ad (bd (ak (ho Y s U H _ I h) λov s1 ⟨x,H1,I1,r1,q1⟩=>?_));refine ad (bd (ak (hi Y s1 U H1 _ I1 q1) λiv s2 ⟨y,H2,I2,r2,q2⟩=>?_));refine ad (wpAny_standAt (ad (bd (ak (hs Y s2 U H2 x y v ov iv u _ I2 r1 r2 r q2) λ_ s3 ⟨H3,I3,q3⟩=>?_))));exact wpAny_release ⟨U,H3,I3,q3⟩
abbrev xq (te:TE)(g:TG):TS:=λD U H=>te U H λx H1=>g x U H1 D.nx
def ue {g:TG}(he:PE X e te)(hg:PG X tg g)(hs:swapsWithSole [tg] e pos.line X.env=pure false:=by rfl) (hw:swappedStores [tg] e X.env=pure none:=by rfl)
  (h1:(assignEach [tg] X.env).map (·.2)=[assign tg X.env]:=by rfl):PS X (.Assign [tg] e pos) (xq te g):=by
 intro Y s U H D I h;refine wpAny_Assign_stores (ak (he Y s U H _ I h) λv s1 ⟨x,H1,I1,r1,q1⟩=>?_) hs hw;rw[h1];exact ak (hg Y s1 U H1 x v _ I1 r1 q1) λ_ s2 q=>q
def nz {pos':Pos}(hN:X.N.Nodup)(hi:X.N[i]? =some x)(hx:Loc X.env.scope x)(he:PE X e te)(hs:swapsWith e (some (.Name x pos')) pos.line X.env=pure false:=by rfl) (hf:X.fn x=true\/X.env.scope.names.lookup x=some .local:=by first|exact .inl rfl|exact .inr rfl|assumption):
  PS X (.Assign [.Name x pos'] e pos) (xq te (cW i)):=by
 intro Y s U H D I h;refine wpAny_Assign_Name (ak (he Y s U H _ I h) λv s1 ⟨y,H1,I1,r1,q1⟩=>?_) hs;exact cT I1 hN hi hx r1 (λs2 I2=>⟨_,H1,I2,q1⟩) hf
abbrev xI (to ti te:TE)(tget:V->V->Hp->VK->Prop)(tip:yf)(tset:lS):TS:=λD U H=>to U H λo H1=>ti U H1 λi H2=>tget o i H2 λx H3=>te U H3 λy H4=>tip x y H4 λz H5=>tset o i z H5 λH6=>D.nx U H6
abbrev vy (X:Cx)(t:V->V->Hp->VK->Prop):Prop:=
 ∀ (Y:AE) (s:Shared) (U:St) (H:Hp) (o i:V) (ov iv:Value) (Q:VK),Inv X Y U H s->RelV o ov->RelV i iv->t o i H Q->
  wpAny (model X.prog X.w) X.A (getItem ov iv) (EP X Y U Q) X.xe s
def qt {o i:Expr}{to ti:TE}{tget:V->V->Hp->VK->Prop}{tip:yf}{tset:lS}{op:Operator}{tpos:Pos}(ho:PE X o to)(hi:PE X i ti)(hg:vy X tget)(he:PE X e te)(hp:ye X op tip)(hs:pH X tset)
  (ha:∀ ov iv new,augStore i ov iv new=(do holding [new,ov,iv] (setItem ov iv new);release [new,ov,iv] [];pure .next):=by intros;rfl):PS X (.AugAssign (.Subscript o i tpos) op e pos) (xI to ti te tget tip tset):=by
 intro Y s U H D I h;refine wpAny_AugAssign_SubscriptAny (ak (ho Y s U H _ I h) λov s1 ⟨x1,H1,I1,r1,q1⟩=>?_) ha;refine ak (hi Y s1 U H1 _ I1 q1) λiv s2 ⟨x2,H2,I2,r2,q2⟩=>?_
 refine ak (hg Y s2 U H2 x1 x2 ov iv _ I2 r1 r2 q2) λold s3 ⟨x3,H3,I3,r3,q3⟩=>?_
 refine ak (he Y s3 U H3 _ I3 q3) λv s4 ⟨x4,H4,I4,r4,q4⟩=>?_
 refine ak (hp Y s4 U H4 x3 x4 old v _ I4 r3 r4 q4) λnew s5 ⟨x5,H5,I5,r5,q5⟩=>?_
 exact ak (hs Y s5 U H5 x1 x2 x5 ov iv new _ I5 r1 r2 r5 q5) λ_ s6 ⟨H6,I6,q6⟩=>⟨U,H6,I6,q6⟩
abbrev zD (f:Int->Int->Int):yf:=λx y H Q=>∃ i j,x=.int i/\y=.int j/\Q (.int (f i j)) H
def uW:ye X .Add (zD λi j=>i+j):=by
 intro Y s U H x y v u Q I r1 r2 h;obtain⟨i,j,e1,e2,q⟩:=h;subst e1;subst e2;obtain⟨t,rfl⟩:=r1;obtain⟨t',rfl⟩:=r2;exact iadd_int ⟨.int _,H,I.tok _,⟨_,rfl⟩,q⟩
def vg:ye X .Sub (zD λi j=>i-j):=by
 intro Y s U H x y v u Q I r1 r2 h;obtain⟨i,j,e1,e2,q⟩:=h;subst e1;subst e2;obtain⟨t,rfl⟩:=r1;obtain⟨t',rfl⟩:=r2;exact isub_int ⟨.int _,H,I.tok _,⟨_,rfl⟩,q⟩
end
section
variable {X:Cx}{pos:Pos}
end
structure It where
 go:Nat->Hp->Prop
 yld:Nat->Hp->V->Hp->Prop
 stop:Nat->Hp->Prop
abbrev ei (X:Cx)(Y:AE)(H:Hp)(b:Addr):Prop:=
 H b=none/\b≠X.env.locals/\b ∉ X.fs/\(b ∈ X.ex\/X.s₀.heap.objs.size<=b)/\(∀ x c,X.env.cells.lookup x=some c->c≠b)/\∀ p ∈ X.pn++Y,p.1≠b
def Inv.qQ {X:Cx}{H':Hp}(I:Inv X Y U H s)(hb:s.heap.objs.size<=b)(hn:H' b=none):ei X Y H' b:=by
 refine⟨hn,Nat.ne_of_gt (lw I.lt hb),I.yo hb,.inr (Nat.le_trans I.sz hb),λx c e z=>?_,λp hp z=>?_⟩
 .obtain⟨v,q⟩:=I.cell x c e;exact absurd (lw q.lt (by rw[z];exact hb)) (Nat.lt_irrefl _)
 .exact absurd (lw (sn (I.pin p hp).1) (by rw[z];exact hb)) (Nat.lt_irrefl _)
structure Turn (P:Program) (w:World) (K:W.Frag) (tg:Expr) (J:It) (fp:List Addr) (it:Addr) (tn:Nat->Heap->Prop):Prop where
 mem:it ∈ fp
 obj:∀ i h,tn i h->∀ b ∈ fp,∃ o,h.get? b=some o/\∀ v,o.data≠.cell v
 keep:∀ i h h',tn i h->(∀ b ∈ fp,∀ o,h.get? b=some o->h'.get? b=some o)->tn i h'
 item:∀ (X:Cx),X.prog=P->X.w=w->X.K=K->X.calm=true->∀ (i:Nat) (Y:AE) (s:Shared) (U:St) (H:Hp) (E:AD),Inv X Y U H s->(∀ b ∈ fp,ei X Y H b)->tn i s.heap->J.go i H->
  wpAny (model P w) X.A (pyNext (.ref it)) (λr s1=>∃ u,r=some u/\
   wpAny (model P w) X.A (letOwnedTupleGo tg (.ref it) u) (λ_ s2=>∃ x H',Inv X Y U H' s2/\RelV x u/\J.yld i H x H'/\tn (i+1) s2.heap/\∀ b ∈ fp,H' b=none) E s1) E s
 done:∀ (X:Cx),X.prog=P->X.w=w->X.K=K->X.calm=true->∀ (i:Nat) (Y:AE) (s:Shared) (U:St) (H:Hp) (E:AD),Inv X Y U H s->(∀ b ∈ fp,ei X Y H b)->tn i s.heap->J.stop i H->
  wpAny (model P w) X.A (pyNext (.ref it)) (λr s1=>r=none/\Inv X Y U H s1) E s
 self:∀ (A:Around) (i:Nat) (s:Shared) (Q:AD) (E:AD),tn i s.heap->Q (.ref it) s->wpAny (model P w) A (pyIter (.ref it)) Q E s
@[reducible]def TI:=St->Hp->(It->Hp->Prop)->Prop
abbrev xM (X:Cx)(Y:AE)(U:St)(tg:Expr)(R:It->Hp->Prop)(itv:Value)(s2:Shared):Prop:=
 ∃ (it:Addr) (fp:List Addr) (tn:Nat->Heap->Prop) (J:It) (H':Hp),itv=.ref it/\Inv X Y U H' s2/\Turn X.prog X.w X.K tg J fp it tn/\tn 0 s2.heap/\(∀ b ∈ fp,ei X Y H' b)/\R J H'
abbrev PI (X:Cx)(tg iter:Expr)(wi:TI):Prop:=
 ∀ (Y:AE) (s:Shared) (U:St) (H:Hp) (R:It->Hp->Prop),Inv X Y U H s->wi U H R->
  wpAny (model X.prog X.w) X.A (eval iter X.env) (λv s1=>wpAny (model X.prog X.w) X.A (pyIter v) (xM X Y U tg R) X.xe s1) X.xe s
def kc {it:Addr}{o:Obj}{n:String}{vs:Array Value}{Q:AB}(ho:s.heap.get? it=some o)(hc:o.cls=.type n)(hd:o.data=.fields vs)
  (hn:["enumerate","zip","dict_itemiterator","dict_reverseitemiterator","odict_iterator","itertools.zip_longest","itertools.pairwise"].contains n=false) (hQ:Q () s):wpAny M A (letOwnedTupleGo tg (.ref it) u) Q E s:=by
 unfold letOwnedTupleGo;cases tg<;>first
  |exact am hQ
  |(cases u<;>first
    |exact am hQ
    |(refine ad (wpAny_load ho ?_)
      rw[hc,hd];show wpAny M A (if(["enumerate","zip","dict_itemiterator","dict_reverseitemiterator","odict_iterator","itertools.zip_longest","itertools.pairwise"].contains n&&vs[0]? ==some (rawInt _))=true then _ else _) Q E s;rw[if_neg (by intro h;rw[hn,Bool.false_and]at h;cases h)];exact am hQ))
abbrev vZ (K:W.Frag)(a:Addr):It:=
 ⟨λi H=>∃ xs x,ax K H a xs/\xs[i]? =some x,λi H x H'=>H'=H/\∀ xs,ax K H a xs->xs[i]? =some x,λi H=>∃ xs,ax K H a xs/\xs.length<=i⟩
abbrev vW (K:W.Frag)(a:Addr):It:=
 ⟨λi H=>∃ xs x,a9 K H a xs/\xs[i]? =some x,λi H x H'=>H'=H/\∀ xs,a9 K H a xs->xs[i]? =some x,λi H=>∃ xs,a9 K H a xs/\xs.length<=i⟩
abbrev sr (lo:Int)(n:Nat):It:=⟨λi _=>i<n,λi H x H'=>H'=H/\x=.int (lo+i),λi _=>n<=i⟩
def lx (a it:Addr):Turn P w K tg (vZ K a) [it] it (λi h=>h.IsListIter it a i) where
 mem:=by simp
 obj:=λi h st b hb=>by
  have e:b=it:=by simpa using hb
  subst e;obtain⟨o,e,c,d⟩:=st;exact⟨o,e,λv z=>by rw[d]at z;cases z⟩
 keep:=λi h h' st k=>st.at λo e=>k it (by simp) o e
 item:=by
  intro X hP hw hK hc i Y s U H E I hf st hg;subst hP hw hK;obtain⟨xs,x,hq,hx⟩:=hg;obtain⟨its,rv,p,hz⟩:=I.list hq;obtain⟨u,hu,ru⟩:=rv.get hx;obtain⟨f0,f1,f2,f3,f4,f5⟩:=hf it (by simp);refine wpAny_pyNext_list_item st p.isList (x:=u) (by simpa using hu) λh' st' sb=>?_
  have I1:Inv X Y U H { s with heap:=h' }:=I.turned (t':=s.toks) (λb o hb e=>(sb.2 b hb).trans e) f0 f1 f3 f4 f5;obtain⟨o,e,c,d⟩:=id st';exact⟨u,rfl,kc (s:={ s with heap:=h' }) e c d (by decide) ⟨x,H,I1,ru,⟨rfl,λys hy=>by rw[I.iN hy hq];exact hx⟩,st',λb hb=>(hf b hb).1⟩⟩
 done:=by
  intro X hP hw hK hc i Y s U H E I hf st hg;subst hP hw hK;obtain⟨xs,hq,hx⟩:=hg;obtain⟨its,rv,p,hz⟩:=I.list hq;obtain⟨f0,f1,f2,f3,f4,f5⟩:=hf it (by simp);have hl:=rv.length;exact wpAny_pyNext_list_end (I.ok.hd hc) st p.isList (by simp;omega) λh' eb=>⟨rfl,I.turned (t':=s.toks) (λb o hb e=>eb b o hb e) f0 f1 f3 f4 f5⟩
 self:=λ_ _ _ _ _ st h=>wpAny_pyIter_listiter st h
def jn (a it:Addr):Turn P w K tg (vW K a) [it] it (λi h=>h.IsTupleIter it a i) where
 mem:=by simp
 obj:=λi h st b hb=>by
  have e:b=it:=by simpa using hb
  subst e;obtain⟨o,e,c,d⟩:=st;exact⟨o,e,λv z=>by rw[d]at z;cases z⟩
 keep:=λi h h' st k=>st.at λo e=>k it (by simp) o e
 item:=by
  intro X hP hw hK hc i Y s U H E I hf st hg;subst hP hw hK;obtain⟨xs,x,hq,hx⟩:=hg;obtain⟨its,rv,p,hz⟩:=I.tuple hq;obtain⟨u,hu,ru⟩:=rv.get hx;obtain⟨f0,f1,f2,f3,f4,f5⟩:=hf it (by simp);refine wpAny_pyNext_tuple_item st (show s.heap.IsTuple a its.toArray from p) (x:=u) (by simpa using hu) λh' st' sb=>?_
  have I1:Inv X Y U H { s with heap:=h' }:=I.turned (t':=s.toks) (λb o hb e=>(sb.2 b hb).trans e) f0 f1 f3 f4 f5;obtain⟨o,e,c,d⟩:=id st';exact⟨u,rfl,kc (s:={ s with heap:=h' }) e c d (by decide) ⟨x,H,I1,ru,⟨rfl,λys hy=>by rw[I.fU hy hq];exact hx⟩,st',λb hb=>(hf b hb).1⟩⟩
 done:=by
  intro X hP hw hK hc i Y s U H E I hf st hg;subst hP hw hK;obtain⟨xs,hq,hx⟩:=hg;obtain⟨its,rv,p,hz⟩:=I.tuple hq;obtain⟨f0,f1,f2,f3,f4,f5⟩:=hf it (by simp);have hl:=rv.length;exact wpAny_pyNext_tuple_end (I.ok.hd hc) st (show s.heap.IsTuple a its.toArray from p) (by simp;omega) λh' eb=>⟨rfl,I.turned (t':=s.toks) (λb o hb e=>eb b o hb e) f0 f1 f3 f4 f5⟩
 self:=λ_ _ _ _ _ st h=>wpAny_pyIter_tupleiter st h
def jv (it:Addr)(lo:Int)(n:Nat):Turn P w K tg (sr lo n) [it] it (λi h=>IsRangeIter h it (lo+(i:Nat)*1) ((n:Int)-(i:Nat)) 1) where
 mem:=by simp
 obj:=λi h st b hb=>by
  have e:b=it:=by simpa using hb
  subst e;exact⟨_,st,λv z=>by
   have z':Data.fields _=Data.cell v:=z;cases z'⟩
 keep:=λi h h' st k=>k it (by simp) _ st
 item:=by
  intro X hP hw hK hc i Y s U H E I hf st hg;subst hP hw hK;obtain⟨f0,f1,f2,f3,f4,f5⟩:=hf it (by simp);have W:=Walks.range (prog:=X.prog) (w:=X.w) (I.ok.hd hc) it lo 1 n;refine W.item i s _ _ hg st λv h' tk hv st' kk=>?_
  obtain⟨t,rfl⟩:=hv;have I1:Inv X Y U H { s with heap:=h',toks:=tk }:=I.turned (λb o hb e=>kk b o (by simpa using hb) e) f0 f1 f3 f4 f5;refine⟨_,rfl,kc (s:={ s with heap:=h',toks:=tk }) (n:="range_iterator") st' rfl rfl (by decide) ⟨.int (lo+i),H,I1,⟨t,?_⟩,⟨rfl,rfl⟩,st',λb hb=>(hf b hb).1⟩⟩;rw[Int.mul_one]
 done:=by
  intro X hP hw hK hc i Y s U H E I hf st hg;subst hP hw hK;obtain⟨f0,f1,f2,f3,f4,f5⟩:=hf it (by simp);exact wpAny_pyNext_range_end (I.ok.hd hc) st (by have:n<=i:=hg;omega) λh' eb=>⟨rfl,I.turned (t':=s.toks) (λb o hb e=>eb b o hb e) f0 f1 f3 f4 f5⟩
 self:=λ_ _ _ _ _ st h=>wpAny_pyIter_rangeiter st h
variable {pos:Pos}{fp:List Addr}{body:List Stmt}
section
variable {X:Cx}{tg:Expr}
def i5 {R:It->Hp->Prop}{lo hi:Int}{t u v:Tok}{tk:Nat}(I:Inv X Y U H s)(h1: -(2 ^ 62)<=lo)(h2:lo<2 ^ 62)(h3: -(2 ^ 62)<=hi)(h4:hi<2 ^ 62)
  (q:R (sr lo (hi-lo).toNat) H):wpAny (model X.prog X.w) X.A (pyIter (.ref s.heap.objs.size)) (xM X Y U tg R) E { s with heap:=s.heap.push { cls:=.type "range",data:=.fields #[.int lo t,.int hi u,.int 1 v] },toks:=tk }:=by
 refine wpAny_pyIter_range (IsRange.new ..) (small_one h1 h2 h3 h4) ?_;have I1:Inv X Y U H { s with heap:=s.heap.push { cls:=.type "range",data:=.fields #[.int lo t,.int hi u,.int 1 v] },toks:=tk }:=I.kept λb o e=>re _ e
 refine⟨(s.heap.push { cls:=.type "range",data:=.fields #[.int lo t,.int hi u,.int 1 v] }).objs.size,[(s.heap.push { cls:=.type "range",data:=.fields #[.int lo t,.int hi u,.int 1 v] }).objs.size],_,_,H,rfl,
  I1.kept (t':=tk) λb o e=>re _ e,jv _ lo (hi-lo).toNat,?_,λb hb=>?_,q⟩
 .have e1:lo+((0:Nat):Int)*1=lo:=by simp
  have e2:(((hi-lo).toNat:Nat):Int)-((0:Nat):Int)=Builtin.Range.rangeSize lo hi 1:=by rw[rangeSize_one];split<;>omega
  show IsRangeIter _ _ (lo+((0:Nat):Int)*1) ((((hi-lo).toNat:Nat):Int)-((0:Nat):Int)) 1;rw[e1,e2];exact ss _ rfl
 .have e:b=(s.heap.push { cls:=.type "range",data:=.fields #[.int lo t,.int hi u,.int 1 v] }).objs.size:=by simpa using hb
  subst e;exact I1.qQ (nl _) (I1.hok.fresh (nl _))
abbrev w6 (ta:TA):TI:=λU H R=>ta U H λvs H1=>∃ j:Int,vs=[.int j]/\ -(2 ^ 62)<=j/\j<2 ^ 62/\R (sr 0 j.toNat) H1
abbrev wR (ta:TA):TI:=λU H R=>ta U H λvs H1=>∃ i j:Int,vs=[.int i,.int j]/\(-(2 ^ 62)<=i/\i<2 ^ 62/\ -(2 ^ 62)<=j/\j<2 ^ 62)/\R (sr i (j-i).toNat) H1
def lL {a:Expr}{ta:TA}{p:Pos}(hg:Gl X "range") (hm:X.mg "range"=none) (ha:PA X [a] ta) (hs:bi [a] X.env=[(false,eval a X.env)]:=by rfl):PI X tg (.Call (.Name "range" p) [a] [] pos) (w6 ta):=by
 intro Y s U H R I h;refine Call_ (eG I hg hm boot_range (PyProof.Rows.callWith_type1 (ak (ha pos Y s U H _ I h) λus s1 ⟨vs,H1,I1,r1,q1⟩=>?_) hs rfl));obtain⟨j,e,q1,q2,q⟩:=q1;subst e;cases r1 with
 |cons r rr=>
  cases rr;obtain⟨t,rfl⟩:=r;exact call_range_1 (i5 I1 nofun nofun q1 q2 (by simpa using q))
def lF {a b:Expr}{ta:TA}{p:Pos}(hg:Gl X "range") (hm:X.mg "range"=none) (ha:PA X [a,b] ta) (hs:bi [a,b] X.env=[(false,eval a X.env),(false,eval b X.env)]:=by rfl) (hs2:bi [b] X.env=[(false,eval b X.env)]:=by rfl):
  PI X tg (.Call (.Name "range" p) [a,b] [] pos) (wR ta):=by
 intro Y s U H R I h;refine Call_ (eG I hg hm boot_range (PyProof.Rows.callWith_type1 (ak (ha pos Y s U H _ I h) λus s1 ⟨vs,H1,I1,r1,q1⟩=>?_) (by rw[hs,hs2]) (by rw[hs2];rfl)));obtain⟨i,j,e,⟨q1,q2,q3,q4⟩,q⟩:=q1;subst e;cases r1 with
 |cons r rr=>
  cases rr with
  |cons r' rr=>
   cases rr;obtain⟨t,rfl⟩:=r;obtain⟨t',rfl⟩:=r';exact call_range_2 (i5 I1 q1 q2 q3 q4 q)
abbrev yy (wi:TI)(g:TG)(tb:TS):TS:=λD U H=>wi U H λJ H1=>∃ W:Nat->Nat->St->Hp->Prop,(∃ m,W 0 m U H1)/\∀ i m U H,W i m U H->
 (J.stop i H/\D.nx U H)\/(J.go i H/\∃ N:St->Hp->Prop,(∀ σ' H',N σ' H'->∃ m',m'<m/\W (i+1) m' σ' H')/\∀ x H',J.yld i H x H'->g x U H' λσ2 H2=>tb { D with nx:=N,ct:=N,bk:=D.nx } σ2 H2)
abbrev g6 (fp:List Addr)(h:Heap):List (Addr×Obj):=fp.filterMap λb=>(h.get? b).map λo=>(b,o)
def aF {o:Obj}(hb:b ∈ fp)(e:h.get? b=some o):(b,o) ∈ g6 fp h:=List.mem_filterMap.mpr ⟨b,hb,by rw[e];rfl⟩
def lT {p:Addr×Obj}(hp:p ∈ g6 fp h):p.1 ∈ fp/\h.get? p.1=some p.2:=by
 obtain⟨b,hb,e⟩:=List.mem_filterMap.mp hp;cases q:h.get? b with
 |none=>rw[q]at e;cases e
 |some o=>
  rw[q]at e;have e':(b,o)=p:=Option.some.inj e;subst e';exact⟨hb,q⟩
def Inv.pinned (I:Inv X Y U H s)(hf:∀ b ∈ fp,ei X Y H b) (ho:∀ b ∈ fp,∃ o,s.heap.get? b=some o/\∀ v,o.data≠.cell v):Inv X (Y++g6 fp s.heap) U H s:=
 I.gK λp hp=>(mem_append.mp hp).elim (λz=>I.pin p (ge _ z)) λz=>by
  obtain⟨hb,e⟩:=lT z;obtain⟨f0,f1,f2,_⟩:=hf p.1 hb;obtain⟨o,e',d⟩:=ho p.1 hb;rw[e]at e';cases e';exact⟨e,f0,f1,f2,d⟩
def Inv.bK {pl:AE}(I:Inv X (Y++pl) U H s):Inv X Y U H s:=I.gK λp hp=>I.pin p (ge _ (mem_append_left _ hp))
def tM {iter:Expr}{wi:TI}{g:TG}{tb:TS}(hp:PassesOwn (model X.prog X.w) X.A X.env X.xe)(hc:X.calm=true)(hi:PI X tg iter wi)(hg:PG X tg g)(hb:sq X body tb)
  (hs:∀ x,foldedSetIterable iter X.env x=pure x:=by intro _;rfl):PS X (.For tg iter body [] pos) (yy wi g tb):=by
 intro Y s U H D I h;refine wpAny_For (ak (hi Y s U H _ I h) λv s1 h1=>ak h1 λitv s2 h2=>?_) hs;obtain⟨it,fp,tn,J,H2,e,I2,T,kg,f2,W,⟨m0,w0⟩,turn⟩:=h2;subst e;have stat:∀ {H':Hp},(∀ b ∈ fp,H' b=none)->∀ b ∈ fp,ei X Y H' b:=λhn b hb=>⟨hn b hb,(f2 b hb).2⟩
 refine codeAny_forLoop_any (λn s'=>∃ i σ' H',Inv X Y σ' H' s'/\tn i s'.heap/\(∀ b ∈ fp,H' b=none)/\W i n σ' H') ?_ m0 ⟨0,U,H2,I2,kg,λb hb=>(f2 b hb).1,w0⟩;rintro n s3 ⟨i,σ3,H3,I3,st3,fr3,w3⟩;rcases turn i n σ3 H3 w3 with⟨stop,qn⟩|⟨go,N,hN,step⟩
 .refine wpAny_passesOwn hp (ak (T.done X rfl rfl rfl hc i Y s3 σ3 H3 X.xe I3 (stat fr3) st3 stop) λr s4 ⟨hr,I4⟩=>?_);subst hr;exact wpAny_execs_nil ⟨σ3,H3,I4,qn⟩
 .refine wpAny_passesOwn hp (ak (T.item X rfl rfl rfl hc i Y s3 σ3 H3 X.xe I3 (stat fr3) st3 go) λr s4 ⟨u,hr,h4⟩=>?_);subst hr;refine wpAny_passesOwn hp (ak h4 λ_ s5 ⟨x,H5,I5,r5,y5,st5,fr5⟩=>?_);have I5':=I5.pinned (stat fr5) (T.obj _ _ st5);refine wpAny_passesOwn hp (ak (hg _ s5 σ3 H5 x u _ I5' r5 (step x H5 y5)) λ_ s6 ⟨σ6,H6,I6,q6⟩=>?_);refine wpAny_passesOwn hp (ak (hb _ s6 σ6 H6 _ I6 q6) λf s7 q7=>?_);have again:∀ {σ7:St}{H7:Hp},Inv X (Y++g6 fp s5.heap) σ7 H7 s7->N σ7 H7->∃ m,m<n/\∃ i σ' H',Inv X Y σ' H' s7/\tn i s7.heap/\(∀ b ∈ fp,H' b=none)/\W i m σ' H':=λ{σ7 H7} I7 n7=>by
   obtain⟨m',hm,w7⟩:=hN σ7 H7 n7;refine⟨m',hm,i+1,σ7,H7,I7.bK,T.keep _ _ _ st5 λb hb o e=>(I7.pin (b,o) (ge _ (ge _ (aF hb e)))).1,λb hb=>?_,w7⟩;obtain⟨o,e,d⟩:=T.obj _ _ st5 b hb;exact(I7.pin (b,o) (ge _ (ge _ (aF hb e)))).2.1
  cases f with
  |next=>obtain⟨σ7,H7,I7,n7⟩:=q7;exact again I7 n7
  |cont=>obtain⟨σ7,H7,I7,n7⟩:=q7;exact again I7 n7
  |brk=>obtain⟨σ7,H7,I7,q7⟩:=q7;exact⟨σ7,H7,I7.bK,q7⟩
  |ret v=>obtain⟨x7,σ7,H7,I7,r7,q7⟩:=q7;exact⟨x7,σ7,H7,I7.bK,r7,q7⟩
end
@[reducible]def R2:=V->V->Hp->VK->Prop
abbrev a4 (X:Cx)(f:Value->Value->Sem Value)(r:R2):Prop:=
 ∀ (Y:AE) (s:Shared) (U:St) (H:Hp) (x y:V) (v u:Value) (Q:VK),Inv X Y U H s->RelV x v->RelV y u->r x y H Q->
  wpAny (model X.prog X.w) X.A (f v u) (EP X Y U Q) X.xe s
abbrev yb (X:Cx)(f:Value->Sem Value)(r:V->Hp->VK->Prop):Prop:=
 ∀ (Y:AE) (s:Shared) (U:St) (H:Hp) (x:V) (v:Value) (Q:VK),Inv X Y U H s->RelV x v->r x H Q->
  wpAny (model X.prog X.w) X.A (f v) (EP X Y U Q) X.xe s
abbrev bt (X:Cx)(f:Value)(r:List V->Hp->VK->Prop):Prop:=
 ∀ (Y:AE) (s:Shared) (U:St) (H:Hp) (xs:List V) (us:List Value) (Q:VK),Inv X Y U H s->Vals xs us->r xs H Q->
  wpAny (model X.prog X.w) X.A (call f us) (EP X Y U Q) X.xe s
abbrev yY (X:Cx)(r:V->Hp->(Bool->Hp->Prop)->Prop):Prop:=
 ∀ (Y:AE) (s:Shared) (U:St) (H:Hp) (x:V) (v:Value) (Q:Bool->Hp->Prop),Inv X Y U H s->RelV x v->r x H Q->
  wpAny (model X.prog X.w) X.A (truthy v) (TP X Y U Q) X.xe s
abbrev xU (r:R2)(ta tb:TE):TE:=λU H Q=>ta U H λx H1=>tb U H1 λy H2=>r x y H2 Q
abbrev zO (r:V->Hp->VK->Prop)(ta:TE):TE:=λU H Q=>ta U H λx H1=>r x H1 Q
abbrev rI (C:Int->Int->Prop)(g:Int->Int->V):R2:=λx y H Q=>∃ i j,x=.int i/\y=.int j/\C i j/\Q (g i j) H
abbrev qx (g:Int->Int->V):R2:=λx y H Q=>∃ i j,x=.int i/\y=.int j/\Q (g i j) H
abbrev rU (g:Int->V):V->Hp->VK->Prop:=λx H Q=>∃ i,x=.int i/\Q (g i) H
variable {f:Value->Value->Sem Value}{r:R2}{g:Int->Int->Int}
section
variable {X:Cx}{a b c:Expr}{ta tb tc:TE}{pos:Pos}
def tG (ha:PE X a ta)(hb:PE X b tb){R:V->V->Hp->Prop}(I:Inv X Y U H s)
  (h:ta U H λx H1=>tb U H1 λy H2=>R x y H2)
  (hf:∀ v u s2 x y H2,Inv X Y U H2 s2->RelV x v->RelV y u->R x y H2->wpAny (model X.prog X.w) X.A (f v u) Q X.xe s2):
  wpAny (model X.prog X.w) X.A (eval a X.env) (λv s₁=>wpAny (model X.prog X.w) X.A (eval b X.env) (λu s₂=>wpAny (model X.prog X.w) X.A (f v u) Q X.xe s₂) X.xe s₁) X.xe s:=by
 refine ak (ha Y s U H _ I h) λv s1 ⟨x,H1,I1,r1,q1⟩=>?_
 refine ak (hb Y s1 U H1 _ I1 q1) λu s2 ⟨y,H2,I2,r2,q2⟩=>?_
 exact hf v u s2 x y H2 I2 r1 r2 q2
def xG {op:Operator}(ho:a4 X (binaryOp op) r)(ha:PE X a ta)(hb:PE X b tb):PE X (.BinOp a op b pos) (xU r ta tb):=by
 intro Y s U H Q I h;exact wpAny_BinOp (tG ha hb I h λv u s2 x y H2 I2 rx ry q=>ho Y s2 U H2 x y v u Q I2 rx ry q)
def wx {op:UnaryOp}{r:V->Hp->VK->Prop}(ho:yb X (unaryOp op) r)(ha:PE X a ta):PE X (.UnaryOp op a pos) (zO r ta):=by
 intro Y s U H Q I h;exact UnaryOp_ (ak (ha Y s U H _ I h) λv s1 ⟨x,H1,I1,r1,q1⟩=>ho Y s1 U H1 x v Q I1 r1 q1)
def x9 {C:Int->Int->Prop}
  (rule:∀ (i j:Int) (t u:Tok) (s:Shared) (Q:AD) (E:AD),C i j->Q (.int (g i j) s.toks) { s with toks:=s.toks+1 }->wpAny (model X.prog X.w) X.A (f (.int i t) (.int j u)) Q E s):
  a4 X f (rI C λi j=>.int (g i j)):=by
 intro Y s U H x y v u Q I rx ry h;obtain⟨i,j,rfl,rfl,hc,q⟩:=h;obtain⟨t,rfl⟩:=rx;obtain⟨t',rfl⟩:=ry;exact rule i j t t' s _ _ hc ⟨.int (g i j),H,I.tok _,⟨_,rfl⟩,q⟩
def xO 
  (rule:∀ (i j:Int) (t u:Tok) (s:Shared) (Q:AD) (E:AD),Q (.int (g i j) s.toks) { s with toks:=s.toks+1 }->wpAny (model X.prog X.w) X.A (f (.int i t) (.int j u)) Q E s):
  a4 X f (qx λi j=>.int (g i j)):=by
 intro Y s U H x y v u Q I rx ry h;obtain⟨i,j,rfl,rfl,q⟩:=h;obtain⟨t,rfl⟩:=rx;obtain⟨t',rfl⟩:=ry;exact rule i j t t' s _ _ ⟨.int (g i j),H,I.tok _,⟨_,rfl⟩,q⟩
def pQ {g:Int->Int->Bool}
  (rule:∀ (i j:Int) (t u:Tok) (s:Shared) (Q:AD) (E:AD),Q (.bool (g i j)) s->wpAny (model X.prog X.w) X.A (f (.int i t) (.int j u)) Q E s):
  a4 X f (qx λi j=>.bl (g i j)):=by
 intro Y s U H x y v u Q I rx ry h;obtain⟨i,j,rfl,rfl,q⟩:=h;obtain⟨t,rfl⟩:=rx;obtain⟨t',rfl⟩:=ry;exact rule i j t t' s _ _ ⟨.bl (g i j),H,I,rfl,q⟩
abbrev zi (i j:Int):Prop:=0<j/\j<1073741824
abbrev pZ (i j:Int):Prop:=0<=j/\j<=1000000/\i.natAbs<2 ^ 64
abbrev lr (i j:Int):Prop:=(-(2 ^ 64)<i/\i<2 ^ 64)\/(-(2 ^ 64)<j/\j<2 ^ 64)
def lr.ok {i j:Int}(h:lr i j):IntMulOk i j:=by
 rcases h with⟨h1,h2⟩|⟨h1,h2⟩
 .exact .of_left (intBits_le_64 h1 h2)
 .exact .of_right (intBits_le_64 h1 h2)
def uG:a4 X (binaryOp .Add) (qx λi j=>.int (i+j)):=xO λ_ _ _ _ _ _ _ q=>add_int q
def vw:a4 X (binaryOp .Sub) (qx λi j=>.int (i-j)):=xO λ_ _ _ _ _ _ _ q=>sub_int q
def uf:a4 X (binaryOp .Mult) (rI lr λi j=>.int (i*j)):=x9 λ_ _ _ _ _ _ _ hc q=>mul_int q hc.ok
def qB:a4 X (binaryOp .FloorDiv) (rI zi λi j=>.int (i / j)):=x9 λi j _ _ _ _ _ hc q=>by
 have h1:(0:Int)<j:=hc.1;have h2:j<1073741824:=hc.2;exact floordiv_int nofun (by rw[Int.fdiv_eq_ediv_of_nonneg i nofun];exact q) (.inl (PyProof.noPylong_small nofun))
def vS:a4 X (binaryOp .Mod) (rI (λ_ j=>0<j) λi j=>.int (i % j)):=x9 λi j _ _ _ _ _ hc q=>by
 have h1:(0:Int)<j:=hc;exact mod_int' nofun (by rw[Int.fmod_eq_emod_of_nonneg i nofun];exact q)
def ua:a4 X (binaryOp .Pow) (rI pZ λi j=>.int (i ^ j.toNat)):=x9 λ_ _ _ _ _ _ _ hc q=>pow_int_small hc.1 hc.2.1 hc.2.2 q
def zJ {f:Value->Sem Value}{g:Int->Int}
  (rule:∀ (i:Int) (t:Tok) (s:Shared) (Q:AD) (E:AD),Q (.int (g i) s.toks) { s with toks:=s.toks+1 }->wpAny (model X.prog X.w) X.A (f (.int i t)) Q E s):
  yb X f (rU λi=>.int (g i)):=by
 intro Y s U H x v Q I rx h;obtain⟨i,rfl,q⟩:=h;obtain⟨t,rfl⟩:=rx;exact rule i t s _ _ ⟨.int (g i),H,I.tok _,⟨_,rfl⟩,q⟩
def tW:yb X (unaryOp .USub) (rU λi=>.int (-i)):=zJ λ_ _ _ _ _ q=>neg_int q
end
variable {op:CmpOp}
section
variable {X:Cx}{a b c:Expr}{ta tb tc:TE}{pos:Pos}
def ju {Q:VK}{k k':Bool}(I:Inv X Y U H s)(q:Q (.bl k) H)(e:k=k'):EP X Y U Q (.bool k') s:=by
 subst e;exact⟨.bl k,H,I,rfl,q⟩
def xm:a4 X (compareOp .Lt) (qx λi j=>.bl (decide (i<j))):=pQ λ_ _ _ _ _ _ _ q=>lt_int q
def wA:a4 X (compareOp .LtE) (qx λi j=>.bl (decide (i<=j))):=pQ λ_ _ _ _ _ _ _ q=>le_int q
def xD:a4 X (compareOp .Gt) (qx λi j=>.bl (decide (j<i))):=pQ λ_ _ _ _ _ _ _ q=>gt_int q
def xb:a4 X (compareOp .GtE) (qx λi j=>.bl (decide (j<=i))):=pQ λ_ _ _ _ _ _ _ q=>ge_int q
def lb:a4 X (compareOp .In) (λx y H Q=>∃ i j,x=.str i/\y=.str j/\Q (.bl (!(Builtin.Str.occurrences j i 0 j.length 1).isEmpty)) H):=by
 intro Y s U H x y v u Q I rx ry h;obtain⟨i,j,rfl,rfl,q⟩:=h;obtain⟨t,rfl⟩:=rx;obtain⟨t',rfl⟩:=ry;exact in_str (ju I q rfl)
def uB:a4 X (compareOp .Is) (λx y H Q=>y=.non/\Q (.bl (decide (x=.non))) H):=by
 intro Y s U H x y v u Q I rx ry h;obtain⟨rfl,q⟩:=h;cases ry;refine is_none_gen (ju I q ?_);cases x<;>first
  |(cases rx;rfl)
  |(obtain⟨t,rfl⟩:=rx;rfl)
def qY:a4 X (compareOp .IsNot) (λx y H Q=>y=.non/\Q (.bl (!decide (x=.non))) H):=by
 intro Y s U H x y v u Q I rx ry h;obtain⟨rfl,q⟩:=h;cases ry;refine isnot_none_gen (ju I q ?_);cases x<;>first
  |(cases rx;rfl)
  |(obtain⟨t,rfl⟩:=rx;rfl)
def qU (ho:a4 X (compareOp op) r)(ha:PE X a ta)(hb:PE X b tb)(hm:behindInMarks op b=false):PE X (.Compare a [op] [b] pos) (xU r ta tb):=by
 intro Y s U H Q I h;exact wpAny_Compare1 (tG ha hb I h λv u s2 x y H2 I2 rx ry q=>ho Y s2 U H2 x y v u Q I2 rx ry q) hm
abbrev si (t:TE):TT:=λU H Q=>t U H λx H'=>∃ k,x=.bl k/\Q k H'
def rC (ho:a4 X (compareOp op) r)(ha:PE X a ta)(hb:PE X b tb)(hm:behindInMarks op b=false):PT X (.Compare a [op] [b] pos) (si (xU r ta tb)):=by
 intro Y s U H Q I h;refine wpAny_isTrue_Compare1 (ak (ha Y s U H _ I h) λv s1 ⟨x,H1,I1,r1,q1⟩=>ak (hb Y s1 U H1 _ I1 q1) λu s2 ⟨y,H2,I2,r2,q2⟩=>
  ak (ho Y s2 U H2 x y v u _ I2 r1 r2 q2) λc s3 ⟨z,H3,I3,r3,k,e,q3⟩=>?_) hm
 subst e;cases r3;exact be ⟨H3,I3,q3⟩
abbrev n9 (r r':R2)(ta tb tc:TE):TE:=λU H Q=>ta U H λx H1=>tb U H1 λy H2=>r x y H2 λz H3=>∃ k,z=.bl k/\
 (if k=true then tc U H3 λw' H4=>r' y w' H4 Q else Q (.bl false) H3)
def og {op':CmpOp}{r':R2}(ho:a4 X (compareOp op) r)(ho':a4 X (compareOp op') r')(ha:PE X a ta)(hb:PE X b tb)(hc:PE X c tc)
  (hm:lastMarks [op,op'] [b,c]=false:=by with_unfolding_all rfl):PE X (.Compare a [op,op'] [b,c] pos) (n9 r r' ta tb tc):=by
 intro Y s U H Q I h;refine Compare_chain (ak (ha Y s U H _ I h) λv s1 ⟨x,H1,I1,r1,q1⟩=>chain_link (ak (hb Y s1 U H1 _ I1 q1) λu s2 ⟨y,H2,I2,r2,q2⟩=>
  ak (ho Y s2 U H2 x y v u _ I2 r1 r2 q2) λd s3 ⟨z,H3,I3,r3,k,e,q3⟩=>?_)) hm
 subst e;cases r3;refine be ?_;cases k with
 |false=>exact ite_ff ⟨.bl false,H3,I3,rfl,q3⟩
 |true=>exact ite_tt (chain_last (ak (hc Y s3 U H3 _ I3 q3) λw' s4 ⟨z',H4,I4,r4,q4⟩=>ho' Y s4 U H4 y z' u w' Q I4 r2 r4 q4))
def nH {op':CmpOp}{r':R2}(ho:a4 X (compareOp op) r)(ho':a4 X (compareOp op') r')(ha:PE X a ta)(hb:PE X b tb)(hc:PE X c tc)
  (hm:lastMarks [op,op'] [b,c]=false:=by with_unfolding_all rfl):PT X (.Compare a [op,op'] [b,c] pos) (si (n9 r r' ta tb tc)):=by
 intro Y s U H Q I h;refine isTrue_chain (ak (ha Y s U H _ I h) λv s1 ⟨x,H1,I1,r1,q1⟩=>test_link (ak (hb Y s1 U H1 _ I1 q1) λu s2 ⟨y,H2,I2,r2,q2⟩=>
  ak (ho Y s2 U H2 x y v u _ I2 r1 r2 q2) λd s3 ⟨z,H3,I3,r3,k,e,q3⟩=>?_)) hm
 subst e;cases r3;refine be ?_;cases k with
 |false=>
  obtain⟨k',e',q'⟩:=q3;cases e';exact ite_ff ⟨H3,I3,q'⟩
 |true=>
  refine ite_tt (test_last (ak (hc Y s3 U H3 _ I3 q3) λw' s4 ⟨z',H4,I4,r4,q4⟩=>ak (ho' Y s4 U H4 y z' u w' _ I4 r2 r4 q4) λd' s5 ⟨z2,H5,I5,r5,k2,e2,q5⟩=>?_));subst e2;cases r5;exact be ⟨H5,I5,q5⟩
abbrev rE (K:W.Frag)(x:V)(H:Hp)(k:Bool):Prop:=
 match x with
 | .non=>k=false
 | .bl b=>k=b
 | .int i=>k=(i != 0)
 | .str y=>y.length<=bm/\k=((y.length:Int) != 0)
 | .byt y=>y.size<=bm/\k=((y.size:Int) != 0)
 | .ref p=>(∃ xs,ax K H p xs/\k= !xs.isEmpty)\/(∃ xs,a9 K H p xs/\k= !xs.isEmpty)\/∃ kvs,H p=some (.dK kvs)/\k= !kvs.isEmpty
 |_=>False
def jG {κ:Type}{kvs:List (κ×V)}{vs:List (κ×Value)}(r:KV kvs vs):(!vs.isEmpty)= !kvs.isEmpty:=by
 cases r<;>rfl
def fc {its:List Value}(r:Vals xs its):(!its.toArray.isEmpty)= !xs.isEmpty:=by
 cases r<;>simp
def cx:(bm:Nat)<2 ^ 63:=by rw[sizeLine_eq];decide
def uH:yY X (λx H Q=>∃ k,rE X.K x H k/\Q k H):=by
 intro Y s U H x v Q I rx h;obtain⟨k,e,q⟩:=h;have hl:=cx;have hs:bm=16777216:=sizeLine_eq;cases x with
 |non=>
  cases rx;have e':k=false:=e;subst e';exact truthy_none ⟨H,I,q⟩
 |bl b=>
  cases rx;have e':k=b:=e;subst e';exact be ⟨H,I,q⟩
 |int i=>
  obtain⟨t,rfl⟩:=rx;have e':k=(i != 0):=e;subst e';exact PySem.P.truthy_int ⟨H,I,q⟩
 |str y=>
  obtain⟨t,rfl⟩:=rx;obtain⟨hy,e'⟩:y.length<=bm/\k=((y.length:Int) != 0):=e;subst e';exact PySem.P.truthy_str nofun ⟨H,I.tok _,q⟩
 |byt y=>
  obtain⟨t,rfl⟩:=rx;obtain⟨hy,e'⟩:y.size<=bm/\k=((y.size:Int) != 0):=e;subst e';exact W.truthy_bytes nofun ⟨H,I.tok _,q⟩
 |ref p=>
  cases rx;have e':(∃ xs,ax X.K H p xs/\k= !xs.isEmpty)\/(∃ xs,a9 X.K H p xs/\k= !xs.isEmpty)\/∃ kvs,H p=some (.dK kvs)/\k= !kvs.isEmpty:=e;rcases e' with⟨xs,hx,e'⟩|⟨xs,hx,e'⟩|⟨kvs,hx,e'⟩
  .subst e';obtain⟨its,r,pl,hz⟩:=I.list hx;have hlen:=r.length;exact wpAny_truthy_list pl.isList (by simp only[f8];omega) ⟨H,I.tok _,by rw[fc r];exact q⟩
  .subst e';obtain⟨its,r,pl,hz⟩:=I.tuple hx;have hlen:=r.length;exact truthy_tuple pl (by simp only[f8];omega) ⟨H,I.tok _,by rw[fc r];exact q⟩
  .subst e';obtain⟨hz,hS,vs,r,m⟩:kvs.length<=bm/\(p ==sysModules)=false/\∃ vs,KV kvs vs/\s.heap.DictOf (aq X.prog X.w) p vs:=I.hok p _ hx;have hlen:kvs.length=vs.length:=Paired.length r;exact wpAny_truthy_dict hS m nofun ⟨H,I.tok _,by rw[jG r];exact q⟩
 |_=>exact(show False from e).elim
def pD (ha:PE X a ta)(he:∀ whole,isTrue a X.env whole=(do let v <-whole;standAt a.pos;holding [v] (truthy v))):
  PT X a (λU H Q=>ta U H λx H'=>∃ k,rE X.K x H' k/\Q k H'):=by
 intro Y s U H Q I h;exact isTrue_plain (ak (ha Y s U H _ I h) λv s1 ⟨x,H1,I1,r1,q1⟩=>uH Y s1 U H1 x v Q I1 r1 q1) (he _)
def jS:a4 X (binaryOp .Add) (λx y H Q=>∃ i j,x=.str i/\y=.str j/\i.length+j.length<=bm/\Q (.str (i++j)) H):=by
 intro Y s U H x y v u Q I rx ry h;obtain⟨i,j,rfl,rfl,hz,q⟩:=h;obtain⟨t,rfl⟩:=rx;obtain⟨t',rfl⟩:=ry;exact add_str (λt' tk=>⟨.str (i++j),H,I.tok _,⟨_,rfl⟩,q⟩) hz
def vals1 {x:V}(r:Vals [x] us):∃ u,us=[u]/\RelV x u:=by
 cases r with
 |cons r1 r2=>cases r2;exact⟨_,rfl,r1⟩
def vals2 {x y:V}(r:Vals [x,y] us):∃ u w',us=[u,w']/\RelV x u/\RelV y w':=by
 cases r with
 |cons r1 r2=>
  cases r2 with
  |cons r3 r4=>cases r4;exact⟨_,_,rfl,r1,r3⟩
def kR:bt X (.type "int") (λxs H Q=>(∃ i,xs=[.int i]/\Q (.int i) H)\/∃ k,xs=[.bl k]/\Q (.int (if k then 1 else 0)) H):=by
 intro Y s U H xs us Q I r h;rcases h with⟨i,rfl,q⟩|⟨k,rfl,q⟩
 .obtain⟨u,rfl,t,rfl⟩:=vals1 r;exact call_int_int ⟨.int i,H,I,⟨_,rfl⟩,q⟩
 .obtain⟨u,rfl,r1⟩:=vals1 r;cases r1;exact call_int_bool ⟨.int (if k then 1 else 0),H,I.tok _,⟨_,rfl⟩,q⟩
def hJ:bt X (.type "str") (λxs H Q=>∃ i,xs=[.int i]/\i.natAbs.log2<1920/\Q (.str (toString i)) H):=by
 intro Y s U H xs us Q I r h;obtain⟨i,rfl,hz,q⟩:=h;obtain⟨u,rfl,t,rfl⟩:=vals1 r;exact PySem.P.str_of_int hz ⟨.str _,H,I.tok _,⟨_,rfl⟩,q⟩
abbrev xP (K:W.Frag)(x:V)(H:Hp)(n:Nat):Prop:=
 match x with
 | .str y=>y.length<=bm/\n=y.length
 | .byt y=>y.size<=bm/\n=y.size
 | .ref p=>(∃ xs,ax K H p xs/\n=xs.length)\/∃ xs,a9 K H p xs/\n=xs.length
 |_=>False
def l5:bt X (.builtin "len") (λxs H Q=>∃ x n,xs=[x]/\xP X.K x H n/\Q (.int n) H):=by
 intro Y s U H xs us Q I r h;obtain⟨x,n,rfl,e,q⟩:=h;obtain⟨u,rfl,rx⟩:=vals1 r;have hl:=cx;have hs:bm=16777216:=sizeLine_eq;cases x with
 |str y=>
  obtain⟨t,rfl⟩:=rx;obtain⟨hy,e'⟩:y.length<=bm/\n=y.length:=e;subst e';exact len_str nofun ⟨.int _,H,I.tok _,⟨_,rfl⟩,q⟩
 |byt y=>
  obtain⟨t,rfl⟩:=rx;obtain⟨hy,e'⟩:y.size<=bm/\n=y.size:=e;subst e';exact W.len_bytes nofun ⟨.int _,H,I.tok _,⟨_,rfl⟩,q⟩
 |ref p=>
  cases rx;have e':(∃ xs,ax X.K H p xs/\n=xs.length)\/∃ xs,a9 X.K H p xs/\n=xs.length:=e;rcases e' with⟨xs,hx,e'⟩|⟨xs,hx,e'⟩
  .subst e';obtain⟨its,r',pl,hz⟩:=I.list hx;have hlen:=r'.length;exact Calls.call_len_list pl.isList (by simp only[f8];omega) ⟨.int xs.length,H,I.tok _,⟨_,by simp only[f8];rw[hlen]⟩,q⟩
  .subst e';obtain⟨its,r',pl,hz⟩:=I.tuple hx;have hlen:=r'.length;exact len_tuple pl (by simp only[f8];omega) ⟨.int xs.length,H,I.tok _,⟨_,by simp only[f8];rw[hlen]⟩,q⟩
 |_=>exact(show False from e).elim
end
structure jE (h:Heap) (x dx C:Addr) (mA:AF):Prop where
 obj:h.get? x=some (W.instObj C dx)
 ns:h.Ns1 dx mA
 ne:dx≠x
variable {mA:AF}
def dn {dx:Addr}(n:h.Ns1 dx mA):∃ od,h.get? dx=some od/\∀ name,W.lookIn name od=some (mA name):=by
 obtain⟨o,es,ep,ho,hd,hk,_,hm⟩:=n;refine⟨o,ho,λname=>?_⟩;have e:=hm name;unfold nsFind findBy at e;rw[<-Array.find?_toList]at e;unfold W.lookIn;rw[hd];dsimp only
 split
 .rename_i y q;rw[q]at e;exact congrArg some e
 .rename_i q;rw[q]at e;have a:es.toList.any (·.refKey)=false:=by
   rw[any_eq_false];intro y hy;obtain⟨z,t,hkey⟩:=hk y (Array.mem_toList_iff.mp hy);simp[DictEntry.refKey,hkey]
  have a':¬ es.toList.any (·.refKey)=true:=by rw[a];exact Bool.false_ne_true
  rw[if_neg a'];exact congrArg some e
variable {C:Addr}
def jE.look {x dx:Addr}(I:jE h x dx C mA):∃ od,W.InstAt h x (W.instObj C dx) C (some od)/\∀ name,W.lookIn name od=some (mA name):=
 let⟨od,ho,hl⟩:=dn I.ns
 ⟨od,⟨I.obj,rfl,rfl,ho⟩,hl⟩
variable {pl:Sem Bool}{kw:List (Str×Value)}
section
variable {prog:Program}{w:World}{A:Around}{E:AD}{s:Shared}{K:W.Frag}{x dx C f:Addr}{mA:AF}{name:Str}{v:Value}
def get_map {expr:Bool}(X:K.In s.heap)(I:jE s.heap x dx C mA)(hg:W.plainGet K C name=true)(hh:W.hasDictIn K C=true)
  (ha:W.findIn K (.ref C) name=some none) (hv:mA name=some v) (hv':W.handedIn v=true) (h:Q v { s with toks:=s.toks+1 }):
  wpAny (model prog w) A (getAttr (.ref x) name expr) Q E s:=by
 obtain⟨od,J,hl⟩:=I.look;exact W.get_value X J (W.plainGet_of hg).1 (W.findObj_own hh ha rfl (by rw[hl,hv])) hv' h
def oA {Q:Value×List Value->Shared->Prop}(X:K.In s.heap)(I:jE s.heap x dx C mA)(hg:W.plainGet K C name=true)
  (hf:W.findIn K (.ref C) name=some (some (.ref f))) (ht:W.isFn K (.ref f)=true) (hv:mA name=none) (h:Q (.ref f,[.ref x]) s):
  wpAny (model prog w) A (getMethod (.ref x) name pl) Q E s:=by
 obtain⟨od,J,hl⟩:=I.look;exact W.method_fn X J (W.plainGet_of hg).1 (W.plainGet_of hg).2 hf (beq_iff_eq.mp ht) (by show(W.lookIn name od).map (·.isSome)=some false;rw[hl,hv];rfl) h
def qM {ns:List Str}{Q:AB}(X:K.In s.heap)(I:jE s.heap x dx C mA)
  (hs:W.findIn K (.ref C) "__setattr__"=some (some (.builtin "object.__setattr__"))) (hp:W.plainOver K C=true) (ht:W.takerIn K C name=some none) (hh:W.hasDictIn K C=true)
  (hw:PySem.Within mA ns) (hsz:ns.length<=bm)
  (h:∀ h',jE h' x dx C (λy=>if y=name then some v else mA y)->Heap.SameBut dx s.heap h'->Q () { s with heap:=h',toks:=s.toks+2 }):
  wpAny (model prog w) A (setAttr (.ref x) name v) Q E s:=by
 obtain⟨od,J,hl⟩:=I.look;refine W.set_plain X J hs (W.osa_open (s:={ s with toks:=s.toks+1 }) (r:=none) X J hp ht λb=>?_);obtain⟨cd,hc,hd'⟩:=W.any_some hh;have hx:s.heap.get? x=some ⟨.ref C,some dx,.plain,#[]⟩:=I.obj;refine ad (am (ad (ad (wpAny_loadPart hx (ad (W.Looks.here (s:={ s with toks:=s.toks+1 }) (W.looks_clsIn X hc) ?_))))));rw[hd'];refine am (a:=some dx) (ad (am (ad ?_)));refine wpAny_nsSet1 (s:={ s with toks:=s.toks+1 }) I.ns λh' hn2 hs2=>?_
 obtain⟨oD,esD,epD,hoD,hdD,hcD⟩:=hn2.count (PySem.Within.cons name v hw);refine ad (wpAny_lookBehind hoD (by rw[hdD];exact pastItsLine_dict (Nat.le_trans hcD (by rw[length_cons];omega))) ?_);exact am (h _ ⟨(hs2.2 _ (Ne.symm I.ne)).trans I.obj,hn2,I.ne⟩ hs2)
def nF {R:Result->Shared->Prop}{vs:List Value}(X:K.In s.heap)(hm:W.makesIn K C=true)
  (hi:W.findIn K (.ref C) "__init__"=some (some (.ref f))) (hf:W.typeIn K (.ref f)=some (.type "function"))
  (h:codeAny (model prog w) (A.under (.builtin "type.__call__" ⟨.ref C::vs,kw⟩)) (.call (.ref f) ⟨.ref (s.heap.objs.size+1)::vs,kw⟩) (W.InitBack (s.heap.objs.size+1) R)
   { s with heap:=(s.heap.push W.emptyDict).push (W.instObj C s.heap.objs.size) }):
  codeAny (model prog w) A (.call (.ref C) ⟨vs,kw⟩) R s:=by
 obtain⟨hh,g,d,t,os⟩:=s;exact W.make_core (W.makes_of X hm) (W.looks_findIn X hi) (λself=>W.bind_fn X self hf) (.inl rfl) h
end
abbrev a3 (f:Str)(v:V):List (Str×V)->List (Str×V)
 | []=>[(f,v)]
 |(g,x)::r=>if g=f then(g,v)::r else(g,x)::a3 f v r
def bQ (f g:Str)(v:V):∀ fs:List (Str×V),(a3 f v fs).lookup g=if g=f then some v else fs.lookup g
 | []=>by
  show List.lookup g [(f,v)]=_
  by_cases h:g=f
  .have hb:(g ==f)=true:=beq_iff_eq.mpr h;simp only[List.lookup,hb,if_pos h]
  .have hb:(g ==f)=false:=beq_eq_false_iff_ne.mpr h;simp only[List.lookup,hb,if_neg h]
 |(k,x)::r=>by
  have ih:=bQ f g v r;rw[show a3 f v ((k,x)::r)=(if k=f then(k,v)::r else(k,x)::a3 f v r) from rfl]
  by_cases hk:k=f
  .rw[if_pos hk]
   by_cases h:g=k
   .have hb:(g ==k)=true:=beq_iff_eq.mpr h;simp only[List.lookup,hb,if_pos (h.trans hk)]
   .have hb:(g ==k)=false:=beq_eq_false_iff_ne.mpr h;simp only[List.lookup,hb,if_neg (λe:g=f=>h (e.trans hk.symm))]
  .rw[if_neg hk]
   by_cases h:g=k
   .have hb:(g ==k)=true:=beq_iff_eq.mpr h;simp only[List.lookup,hb,if_neg (λe:g=f=>hk (h.symm.trans e))]
   .have hb:(g ==k)=false:=beq_eq_false_iff_ne.mpr h;simp only[List.lookup,hb];exact ih
def a6 (f:Str)(v:V):∀ fs:List (Str×V),f ∈ (a3 f v fs).map (·.1)/\∀ g,g ∈ fs.map (·.1)->g ∈ (a3 f v fs).map (·.1)
 | []=>⟨by simp[a3],λg h=>by simp at h⟩
 |(k,x)::r=>by
  obtain⟨i1,i2⟩:=a6 f v r;rw[show a3 f v ((k,x)::r)=(if k=f then(k,v)::r else(k,x)::a3 f v r) from rfl]
  by_cases hk:k=f
  .rw[if_pos hk];subst hk;exact⟨by simp,λg h=>by simpa using h⟩
  .rw[if_neg hk];refine⟨?_,λg h=>?_⟩
   .rw[map_cons];exact db _ i1
   .rw[map_cons]at h⊢;rcases le.mp h with e|e
    .exact le.mpr (.inl e)
    .exact db _ (i2 g e)
def bE (f:Str)(v:V):∀ fs:List (Str×V),(a3 f v fs).length<=fs.length+1
 | []=>by simp[a3]
 |(k,x)::r=>by
  have ih:=bE f v r;rw[show a3 f v ((k,x)::r)=(if k=f then(k,v)::r else(k,x)::a3 f v r) from rfl]
  by_cases hk:k=f
  .rw[if_pos hk,length_cons,length_cons];omega
  .rw[if_neg hk,length_cons,length_cons];omega
def a8.some_of {o:Option Value}(r:a8 (some v) o):∃ u,o=some u/\RelV v u:=by
 cases o with
 |none=>exact(show False from r).elim
 |some u=>exact⟨u,rfl,r⟩
def a8.none_of {o:Option Value}(r:a8 none o):o=none:=by
 cases o with
 |none=>rfl
 |some u=>exact(show False from r).elim
def fT (r:RelV v u):W.handedIn u=true:=by
 cases v with
 |non=>cases(show u=Value.none from r);rfl
 |bl b=>cases(show u=Value.bool b from r);rfl
 |int i=>obtain⟨t,e⟩:=(show ∃ t,u=Value.int i t from r);cases e;rfl
 |str x=>obtain⟨t,e⟩:=(show ∃ t,u=Value.str x t from r);cases e;rfl
 |byt b=>obtain⟨t,e⟩:=(show ∃ t,u=Value.bytes b t from r);cases e;rfl
 |flt b=>obtain⟨t,e⟩:=(show ∃ t,u=Value.float b t from r);cases e;rfl
 |ref a=>cases(show u=Value.ref a from r);rfl
 |ty n=>cases(show u=Value.type n from r);rfl
section
variable {P:Program}{w:World}{H H':Hp}{h h':Heap}{a C dx:Addr}{fs fs':List (Str×V)}
def cR (hok:cu P w H h)(e:H a=some (.ins C dx fs)):∃ mA,jE h a dx C mA/\(∀ f,a8 (fs.lookup f) (mA f))/\PySem.Within mA (fs.map (·.1))/\fs.length<=1000/\H dx=some (.own a):=by
 obtain⟨d,z,ne,ob,mA,n,r,q⟩:=(show ao P w H h a (.ins C dx fs) from hok a _ e);exact⟨mA,⟨ob,n,ne⟩,r,q,z,d⟩
end
structure rH (K:W.Frag) (C:Addr):Prop where
 pg:W.plainGet K C Str.empty=true
 hd:W.hasDictIn K C=true
 po:W.plainOver K C=true
 sa:W.findIn K (.ref C) "__setattr__"=some (some (.builtin "object.__setattr__"))
def rH.get (c:rH K C)(f:Str):W.plainGet K C f=true:=c.pg
abbrev bO (K:W.Frag)(C:Addr)(f:Str):Prop:=W.findIn K (.ref C) f=some none
def bO.xH {f:Str}(n:bO K C f):W.takerIn K C f=some none:=by
 unfold W.takerIn;rw[show W.findIn K (.ref C) f=some none from n]
 rfl
structure Meth (K:W.Frag) (C:Addr) (m:Str) (f:Addr):Prop where
 at_:W.findIn K (.ref C) m=some (some (.ref f))
 fn:W.isFn K (.ref f)=true
 kp:W.keepIn K (.ref f)=true
section
variable {X:Cx}{Y:AE}{U:St}{H:Hp}{s:Shared}{a C dx:Addr}{fs:List (Str×V)}{f:Str}{v:V}{A:Around}{E:AD}
def d4 {b:Bool}(I:Inv X Y U H s)(e:H a=some (.ins C dx fs))(c:rH X.K C)(n:bO X.K C f)(l:fs.lookup f=some v)
  (h:∀ u s',Inv X Y U H s'->RelV v u->Q u s'):wpAny (model X.prog X.w) A (getAttr (.ref a) f b) Q E s:=by
 obtain⟨mA,O,r,_,_,_⟩:=cR I.hok e;obtain⟨u,hu,ru⟩:=a8.some_of (v:=v) (o:=mA f) (by rw[<-l];exact r f);exact get_map I.aJ O (c.get f) c.hd n hu (fT ru) (h u _ (I.tok _) ru)
def jw {m:Str}{g:Addr}{Q:Value×List Value->Shared->Prop}(I:Inv X Y U H s)(e:H a=some (.ins C dx fs))(c:rH X.K C)(k:Meth X.K C m g)(l:fs.lookup m=none)
  (h:Q (.ref g,[.ref a]) s):wpAny (model X.prog X.w) A (getMethod (.ref a) m pl) Q E s:=by
 obtain⟨mA,O,r,_,_,_⟩:=cR I.hok e;have hn:mA m=none:=a8.none_of (by rw[<-l];exact r m);exact oA I.aJ O (c.get m) k.at_ k.fn hn h
def et {y:V}{Q:AB}(I:Inv X Y U H s)(e:H a=some (.ins C dx fs))(c:rH X.K C)(n:bO X.K C f)(hl:fs.length<1000)(ry:RelV y u)
  (h:∀ s',Inv X Y U (upd H a (.ins C dx (a3 f y fs))) s'->Q () s'):wpAny (model X.prog X.w) A (setAttr (.ref a) f u) Q E s:=by
 obtain⟨mA,O,r,wi,_,ho⟩:=cR I.hok e;have hz:(fs.map (·.1)).length<=bm:=by rw[bv,sizeLine_eq];omega
 refine qM I.aJ O c.sa c.po n.xH c.hd wi hz λh' O' sb=>h _ ?_
 have hd:∃ o,h'.get? dx=some o:=let⟨o,_,_,e',_⟩:=O'.ns;⟨o,e'⟩;refine I.write (x:=a) (e:=dx) (by rw[e];exact True.intro) (.inr ho) (λb q hb z=>(sb.2 b hb).trans z) hd ?_;refine⟨by rw[ab O.ne];exact ho,?_,O.ne,O'.obj,_,O'.ns,λg=>?_,λg hg=>?_⟩
 .have:=bE f y fs;omega
 .show a8 ((a3 f y fs).lookup g) (if g=f then some u else mA g);rw[bQ]
  by_cases q:g=f
  .rw[if_pos q,if_pos q];exact ry
  .rw[if_neg q,if_neg q];exact r g
 .by_cases q:g=f
  .rw[q];exact(a6 f y fs).1
  .refine(a6 f y fs).2 g (wi g λz=>hg ?_);show(if g=f then some u else mA g)=none;rw[if_neg q];exact z
def Inv.made (I:Inv X Y U H s):Inv X Y U (upd (upd H s.heap.objs.size (.own (s.heap.objs.size+1))) (s.heap.objs.size+1) (.ins C s.heap.objs.size []))
  { s with heap:=(s.heap.push W.emptyDict).push (W.instObj C s.heap.objs.size) }:=by
 have e1:(s.heap.push W.emptyDict).get? s.heap.objs.size=some W.emptyDict:=ss s.heap rfl;have e2:((s.heap.push W.emptyDict).push (W.instObj C s.heap.objs.size)).get? (s.heap.objs.size+1)=some (W.instObj C s.heap.objs.size):=by
  have:=ss (s.heap.push W.emptyDict) (o:=W.instObj C s.heap.objs.size) rfl
  rwa [Heap.size_push]at this
 have e3:(s.heap.push W.emptyDict).Ns s.heap.objs.size (λ_=>none):=⟨W.emptyDict,#[],_,e1,rfl,(λe he=>absurd he (by simp)),λ_=>rfl⟩;have I1:=I.laid (a:=s.heap.objs.size) (o:=.own (s.heap.objs.size+1)) (h':=s.heap.push W.emptyDict) (t':=s.toks) (λb u q=>re _ q) (nl _) ⟨_,e1⟩;refine I1.laid (a:=s.heap.objs.size+1) (o:=.ins C s.heap.objs.size []) (t':=s.toks) (λb u q=>re _ q) (Nat.le_of_eq (Heap.size_push _ _)) ?_;have ne:s.heap.objs.size≠s.heap.objs.size+1:=nb (Nat.lt_succ_self _);refine⟨by rw[ab ne,ag],Nat.zero_le _,ne,e2,λ_=>none,(Heap.Ns1.of_empty e3).at λo q=>re _ q,λ_=>True.intro,λy hy=>absurd rfl hy⟩
def qW {prog:Program}{env:Env}(hb:attributeBase e f env (eval e env)=eval e env)
  (h:wpAny (model prog w) A (eval e env) (λo s₁=>wpAny (model prog w) A (getAttr o f true) Q E s₁) E s):wpAny (model prog w) A (eval (.Attribute e f pos) env) Q E s:=
 Attribute_any_ h (by rw[arm_eval_Attribute,hb])
end
section
variable {X:Cx}{o e value:Expr}{f:Str}{pos pos' tpos:Pos}{ta tv:TE}
end
section
variable {X:Cx}{Y:AE}{U:St}{H:Hp}{s:Shared}{A:Around}{E:AD}{Q:AD}{c:Value}{b:Bool}
inductive dh (K:W.Frag) (H:Hp):V->Value->Prop where
 |non:dh K H .non (.type "NoneType")
 |bl (x:Bool):dh K H (.bl x) (.type "bool")
 |int (i:Int):dh K H (.int i) (.type "int")
 |str (x:Str):dh K H (.str x) (.type "str")
 |flt (x:UInt64):dh K H (.flt x) (.type "float")
 |lst {a:Addr}{xs:List V}(e:H a=some (.lst xs)):dh K H (.ref a) (.type "list")
 |fq {a:Addr}{o:Obj}{xs:List V}(e:H a=some (.fq o (.lst xs))):dh K H (.ref a) (.type "list")
 |tup {a:Addr}{xs:List V}(e:H a=some (.tup xs)):dh K H (.ref a) (.type "tuple")
 |dK {a:Addr}{kvs:List (Key×V)}(e:Rd H a (.dK kvs)):dh K H (.ref a) (.type "dict")
 |dT {a:Addr}{kvs:List (List Key×V)}(e:H a=some (.dT kvs)):dh K H (.ref a) (.type "dict")
 |ins {a C dx:Addr}{fs:List (Str×V)}(e:H a=some (.ins C dx fs)) (cl:rH K C) (ha:W.findIn K (.ref C) "__class__"=some (some (.builtin "object.__class__")))
   (hn:W.specialIn K (.builtin "object.__class__") "__get__"=some (some (.builtin "getset_descriptor.__get__"))) (htk:W.takesIn K (.builtin "object.__class__")=some true)
   (hm:W.mroIn K C (.type "object")=some true):dh K H (.ref a) (.ref C)
def c9 {x:V}{t:Value}(I:Inv X Y U H s)(rx:RelV x u)(ty:dh X.K H x t)(e:W.kitOne X.K t c=some b)(h:∀ tk,Q (.bool b) { s with toks:=tk }):
  wpAny (model X.prog X.w) A (call (.builtin "isinstance") [u,c]) Q E s:=by
 cases ty with
 |non=>cases(show u=Value.none from rx);exact W.kia_one W.kitx_none I.aJ True.intro e (λz=>nomatch z) h
 |bl y=>cases(show u=Value.bool y from rx);exact W.kia_one W.kitx_bool I.aJ True.intro e (λz=>nomatch z) h
 |int i=>obtain⟨t,q⟩:=(show ∃ t,u=Value.int i t from rx);cases q;exact W.kia_one W.kitx_int I.aJ True.intro e (λz=>nomatch z) h
 |str y=>obtain⟨t,q⟩:=(show ∃ t,u=Value.str y t from rx);cases q;exact W.kia_one W.kitx_str I.aJ True.intro e (λz=>nomatch z) h
 |flt y=>obtain⟨t,q⟩:=(show ∃ t,u=Value.float y t from rx);cases q;exact W.kia_one W.kitx_float I.aJ True.intro e (λz=>nomatch z) h
 | @lst a xs ea=>
  cases(show u=Value.ref a from rx);obtain⟨_,_,n,_,h1⟩:=(show ao X.prog X.w H s.heap a (.lst xs) from I.hok a _ ea);exact W.kia_one W.kitx_list I.aJ ⟨_,h1,rfl⟩ e (λz=>nomatch z) h
 | @fq a ob xs ea=>
  cases(show u=Value.ref a from rx);obtain⟨_,_,_,n,_,h1⟩:=(show ao X.prog X.w H s.heap a (.fq ob (.lst xs)) from I.hok a _ ea);exact W.kia_one W.kitx_list I.aJ ⟨_,h1,rfl⟩ e (λz=>nomatch z) h
 | @tup a xs ea=>
  cases(show u=Value.ref a from rx);obtain⟨_,_,_,p⟩:=(show ao X.prog X.w H s.heap a (.tup xs) from I.hok a _ ea);obtain⟨o,h1,h2,_⟩:=p;exact W.kia_one W.kitx_tuple I.aJ ⟨o,h1,h2⟩ e (λz=>nomatch z) h
 | @dK a kvs ea=>
  cases(show u=Value.ref a from rx);obtain⟨_,_,vs,_,p⟩:=(show ao X.prog X.w H s.heap a (.dK kvs) from ea.ok I.hok);obtain⟨o,es,ep,h1,h2,_⟩:=p;exact W.kia_one W.kitx_dict I.aJ ⟨o,h1,h2.1⟩ e (λz=>nomatch z) h
 | @dT a kvs ea=>
  cases(show u=Value.ref a from rx);obtain⟨_,_,xs,_,o,es,ep,h1,h2,_⟩:=(show ao X.prog X.w H s.heap a (.dT kvs) from I.hok a _ ea);exact W.kia_one W.kitx_dict I.aJ ⟨o,h1,h2.1⟩ e (λz=>nomatch z) h
 | @ins a C dx fs ea cl ha hn htk hm=>
  cases(show u=Value.ref a from rx);obtain⟨mA,O,_⟩:=cR I.hok ea;obtain⟨od,J,_⟩:=O.look;exact W.kia_one (W.kitx_own (cl.get _) cl.hd ha hn htk hm) I.aJ J e (λz=>nomatch z) h
end
structure aG (k:Nat) (A:Around):Prop where
 hd:A.handled=none
 dp:A.depth+3*k+5<recursionLimit
 un:A.units+16*k+200<cLine
def aG.mono {j:Nat}(r:aG k A)(h:j<=k):aG j A:=⟨r.hd,by have:=r.dp;omega,by have:=r.un;omega⟩
def aG.deeper (r:aG (k+1) A)(env:Env):aG k (A.deeper env):=
 ⟨r.hd,by have:=r.dp;show A.depth+1+3*k+5<_;omega,by have:=r.un;show A.units+3+16*k+200<_;omega⟩
def jU:(A.under (.builtin "type.__call__" ⟨.ref C::us,kw⟩)).depth=A.depth+1:=by
 first|rfl|simp[Around.under,Code.weight,Code.isCreation,Code.isGuard,Code.isCaller,Code.frames,Code.isFrame,guardIds]
def jF:(A.under (.builtin "type.__call__" ⟨.ref C::us,kw⟩)).units=A.units+1:=by
 first|rfl|simp[Around.under,Code.cUnits,Code.frames,Code.isFrame]
def aG.make (r:aG (k+1) A)(C:Addr)(us:List Value)(kw:List (Str×Value)):aG k (A.under (.builtin "type.__call__" ⟨.ref C::us,kw⟩)):=
 ⟨r.hd,by have:=r.dp;rw[jU];omega,by have:=r.un;rw[jF];omega⟩
def aG.depth (r:aG k A):A.depth<recursionLimit:=by have:=r.dp;omega
abbrev ql:TA:=λ_ H Q=>Q [] H
abbrev tj (ta:TE)(tr:TA):TA:=λU H Q=>ta U H λx H1=>tr U H1 λxs H2=>Q (x::xs) H2
section
variable {X:Cx}{e:Expr}{es:List Expr}{te:TE}{t:TA}{pos:Pos}
def eZ:PA X [] ql:=λ_ _ _ _ H Q I h=>Calls.spliced_nil ⟨[],H,I,.nil,h⟩
def qJ (ha:PE X e te)(hr:PA X es t)(hs:bi (e::es) X.env=(false,eval e X.env)::bi es X.env:=by rfl):PA X (e::es) (tj te t):=by
 intro pos Y s U H Q I h;rw[hs];show wpAny _ _ (spliced ((false,eval e X.env)::backTo pos (bi es X.env))) _ _ s;refine Calls.spliced_cons (ak (ha Y s U H _ I h) λu s1 ⟨x,H1,I1,r1,q1⟩=>?_);exact ak (hr pos Y s1 U H1 _ I1 q1) λus s2 ⟨xs,H2,I2,r2,q2⟩=>⟨x::xs,H2,I2,.cons r1 r2,q2⟩
abbrev ym (t:TA):TE:=λU H Q=>t U H λxs H1=>xs.length<=bm/\∀ p,H1 p=none->Q (.ref p) (upd H1 p (.tup xs))
abbrev yz (t:TA):TE:=λU H Q=>t U H λxs H1=>xs.length<=bm/\∀ p,H1 p=none->Q (.ref p) (upd H1 p (.lst xs))
def uN {x1} (h:PA X es t):PE X (.Tuple es x1 pos) (ym t):=by
 intro Y s U H Q I hq;refine wpAny_Tuple_spliced (ak (h pos Y s U H _ I hq) λus s1 ⟨xs,H1,I1,r,z,q⟩=>⟨by rw[<-r.length];exact z,?_⟩);have hf:H1 s1.heap.objs.size=none:=I1.hok.fresh (nl _);refine⟨.ref s1.heap.objs.size,upd H1 s1.heap.objs.size (.tup xs),I1.laid (t':=s1.toks) (λb u e=>re _ e) (nl _) ?_,rfl,q _ hf⟩;exact⟨z,us,r,⟨_,ss _ rfl,rfl,_,rfl⟩⟩
def tF (h:PA X es t):PE X (.List es pos) (yz t):=by
 intro Y s U H Q I hq;refine wpAny_List_spliced (ak (h pos Y s U H _ I hq) λus s1 ⟨xs,H1,I1,r,z,q⟩=>⟨by rw[<-r.length];exact z,?_⟩);have hf:H1 s1.heap.objs.size=none:=I1.hok.fresh (nl _);refine⟨.ref s1.heap.objs.size,upd H1 s1.heap.objs.size (.lst xs),I1.laid (t':=s1.toks) (λb u e=>re _ e) (nl _) ?_,rfl,q _ hf⟩;exact⟨z,us,0,r,ss _ rfl⟩
end
@[reducible]def Sp:=List V->Hp->VK->XK->Prop
@[reducible]def kb:=List Env->Hp->Shared->XK->Value->Shared->Prop
structure jt (P:Program) (w:World) (K:W.Frag) (mg:AF) (base:Heap) (A:Around) (outer:List Env) (s:Shared) (H:Hp):Prop where
 frames:A.frames=some outer
 mod:Mod K mg base
 bs:∀ b o,base.get? b=some o->s.heap.get? b=some o/\H b=none
 bsz:base.objs.size<=s.heap.objs.size
 fj:s.heap.FunFrames base outer
 frf:∀ b ∈ gv outer,H b=none
 hok:cu P w H s.heap
 bare:AllBare s.gens
abbrev CE (outer:List Env)(P:Program)(w:World)(H:Hp)(s:Shared)(Q:VK)(u:Value)(s':Shared):Prop:=
 ∃ v H',s'.os=s.os/\AllBare s'.gens/\Un (gv outer) [] H H' s.heap s'.heap/\cu P w H' s'.heap/\RelV v u/\Q v H'
abbrev CR (CX:kb)(outer:List Env)(P:Program)(w:World)(H:Hp)(s:Shared)(Q:VK)(E:XK)(r:Result)(s':Shared):Prop:=
 match r with
 | .ok (.ret u)=>CE outer P w H s Q u s'
 | .ok _=>False
 | .error e=>CX outer H s E e s'
structure ba (P:Program) (w:World) (K:W.Frag) (mg:AF) (base:Heap) (CX:kb) (k:Nat) (f:Addr) (fd:FuncData) (ps:List Str) (sp:Sp):Prop where
 len:∀ vs H Q E,sp vs H Q E->vs.length=ps.length
 run:∀ (A:Around) (outer:List Env) (s:Shared) (H:Hp) (args:Args) (us:List Value) (vs:List V) (Q:VK) (E:XK),aG k A->jt P w K mg base A outer s H->BindsTo s fd args (ps.zip us)->Vals vs us->sp vs H Q E->
  codeAny (model P w) A (.call (.ref f) args) (CR CX outer P w H s Q E) s
variable {mg:AF}{base:Heap}{CX:kb}{fd:FuncData}{ps:List Str}
def ba.imp {f:Addr}{sp sp':Sp}(F:ba P w K mg base CX k f fd ps sp)
  (h:∀ vs H Q E,sp' vs H Q E->sp vs H Q E):ba P w K mg base CX k f fd ps sp':=
 ⟨λvs H Q E q=>F.len vs H Q E (h _ _ _ _ q),λA outer s H args us vs Q E hr he hb hv hs=>F.run A outer s H args us vs Q E hr he hb hv (h _ _ _ _ hs)⟩
variable {outer:List Env}
def jt.make (e:jt P w K mg base A outer s H)(C:Addr)(us:List Value)(kw:List (Str×Value)):
  jt P w K mg base (A.under (.builtin "type.__call__" ⟨.ref C::us,kw⟩)) outer s H:=⟨by first|exact e.frames|(simpa[Around.under,Code.envs,Code.isFrame,pushEnvs] using e.frames),e.mod,e.bs,e.bsz,e.fj,e.frf,e.hok,e.bare⟩
section
variable {X:Cx}{Y:AE}{U:St}{H:Hp}{s s':Shared}
def Inv.dc (I:Inv X Y U H s):jt X.prog X.w X.K X.mg X.base X.A X.stack s H:=
 ⟨I.ok.frames,I.ok.mod,I.bs,Nat.le_trans I.ok.bsz I.sz,I.stack,I.gI,I.hok,I.bare⟩
def Inv.after {Q:VK}(I:Inv X Y U H s)(h:CE X.stack X.prog X.w H s Q u s'):EP X Y U Q u s':=by
 obtain⟨v,H',os,bare,un,hok,r,q⟩:=h;obtain⟨hh,g,d,t,os'⟩:=s';obtain rfl:os'=s.os:=os;exact⟨v,H',I.call (h':=hh) (g':=g) (d':=d) (t':=t) (ch:=[]) un hok bare (λb z=>absurd z (by simp)),r,q⟩
end
abbrev sd (sp:Sp)(dvs:List V)(E:St->XK)(t:TA):TE:=λU H Q=>t U H λvs H1=>sp (vs++dvs) H1 Q (E U)
abbrev sF (C:Addr)(sp:Sp)(dvs:List V)(E:St->XK)(t:TA):TE:=λU H Q=>t U H λvs H1=>∀ x dx,H1 x=none->H1 dx=none->dx≠x->
 sp (.ref x::(vs++dvs)) (upd (upd H1 dx (.own x)) x (.ins C dx [])) (λv H2=>v=.non/\Q (.ref x) H2) (E U)
abbrev Binds (K:W.Frag)(fd:FuncData)(ps:List Str)(ds:List Value):Prop:=
 ∀ (s:Shared) (us:List Value),K.In s.heap->(us++ds).length=ps.length->BindsTo s fd ⟨us,[]⟩ (ps.zip (us++ds))
def Binds.all (h:∀ us:List Value,us.length=ps.length->bindArgs fd ⟨us,[]⟩=pure (ps.zip us)):Binds K fd ps []:=λs us _ hl=>by
 rw[append_nil]at hl⊢;exact .of_eq (h us hl)
abbrev Passes (CX:kb)(X:Cx)(E:St->XK):Prop:=∀ (Y:AE) (U:St) (H:Hp) (s:Shared) (e:Value) (s':Shared),Inv X Y U H s->CX X.stack H s (E U) e s'->X.xe e s'
variable {vs:List V}
section
variable {X:Cx}{CX:kb}{k:Nat}{f C:Addr}{fd:FuncData}{ps:List Str}{sp:Sp}{dvs:List V}{ds:List Value}{E:St->XK}{x m:Str}{p pos apos:Pos}{e o:Expr}{es:List Expr}{ta:TE}{t:TA}
def gM {Q:VK}(F:ba X.prog X.w X.K X.mg X.base CX k f fd ps sp)(hr:aG k X.A)(hb:Binds X.K fd ps ds)(hd:Vals dvs ds)(hx:Passes CX X E)
  (I:Inv X Y U H s) (r:Vals vs us) (h:sp (vs++dvs) H Q (E U)):wpAny (model X.prog X.w) X.A (call (.ref f) us) (EP X Y U Q) X.xe s:=by
 have r2:Vals (vs++dvs) (us++ds):=r.append hd;have hl:(us++ds).length=ps.length:=by rw[<-r2.length];exact F.len _ _ _ _ h
 refine wpAny_call (codeAny_mono (F.run X.A X.stack s H ⟨us,[]⟩ (us++ds) (vs++dvs) Q (E U) hr I.dc (hb s us I.aJ hl) r2 h) λr s' hq=>?_);cases r with
 |error e=>exact hx Y U H s e s' I hq
 |ok fl=>
  cases fl with
  |ret u=>exact I.after hq
  |next=>exact False.elim hq
  |brk=>exact False.elim hq
  |cont=>exact False.elim hq
def pY (F:ba X.prog X.w X.K X.mg X.base CX k f fd ps sp)(hr:aG k X.A)(hg:Gl X x)(hm:X.mg x=some (.ref f))(hk:W.keepIn X.K (.ref f)=true)(hb:Binds X.K fd ps ds)(hd:Vals dvs ds)(hx:Passes CX X E)
  (ha:PA X (e::es) t) (hdb:(x ==("__debug__":Str))=false:=by decide) (he:bi (e::es) X.env=(false,eval e X.env)::bi es X.env:=by rfl) (hpl:(backTo pos (bi es X.env)).any (·.1)=false:=by rfl):
  PE X (.Call (.Name x p) (e::es) [] pos) (sd sp dvs E t):=by
 intro Y s U H Q I h;refine bn (aI I hg hm ?_ hdb);refine W.callWith_K (h₀:=X.base) I.ok.mod.kin hk (ak (ha pos Y s U H _ I h) λus s1 ⟨vs,H1,I1,r,q⟩=>⟨I1.aJ,?_⟩) he hpl;exact gM F hr hb hd hx I1 r q
def pz (F:ba X.prog X.w X.K X.mg X.base CX k f fd ps sp)(hr:aG k X.A)(hg:Gl X x)(hm:X.mg x=some (.ref f))(hk:W.keepIn X.K (.ref f)=true)(hb:Binds X.K fd ps ds)(hd:Vals dvs ds)(hx:Passes CX X E)
  (hdb:(x ==("__debug__":Str))=false:=by decide):PE X (.Call (.Name x p) [] [] pos) (sd sp dvs E ql):=by
 intro Y s U H Q I h;refine bn (aI I hg hm ?_ hdb);exact W.callWith_K0 I.aJ hk (gM (us:=[]) F hr hb hd hx I .nil h)
structure Mk (K:W.Frag) (C f:Addr):Prop where
 makes:W.makesIn K C=true
 init:W.findIn K (.ref C) "__init__"=some (some (.ref f))
 fn:W.isFn K (.ref f)=true
 kp:W.keepIn K (.ref C)=true
def iA {Q:VK}(M:Mk X.K C f)(F:ba X.prog X.w X.K X.mg X.base CX k f fd ps sp)(hr:aG (k+1) X.A)(hb:Binds X.K fd ps ds)(hd:Vals dvs ds)
  (hx:Passes CX X E) (I:Inv X Y U H s) (r:Vals vs us)
  (h:∀ x dx,H x=none->H dx=none->dx≠x->sp (.ref x::(vs++dvs)) (upd (upd H dx (.own x)) x (.ins C dx [])) (λv H2=>v=.non/\Q (.ref x) H2) (E U)):
  wpAny (model X.prog X.w) X.A (call (.ref C) us) (EP X Y U Q) X.xe s:=by
 have hq:=h (s.heap.objs.size+1) s.heap.objs.size (I.hok.fresh (Nat.le_succ _)) (I.hok.fresh (nl _)) (nb (Nat.lt_succ_self _));have I2:=Inv.made (C:=C) I;have r2:Vals (V.ref (s.heap.objs.size+1)::(vs++dvs)) (Value.ref (s.heap.objs.size+1)::(us++ds)):=.cons rfl (r.append hd);have hl:(Value.ref (s.heap.objs.size+1)::us++ds).length=ps.length:=by
  have e:=r2.length;rw[F.len _ _ _ _ hq]at e;exact e.symm
 refine wpAny_call (nF (f:=f) I.aJ M.makes M.init (beq_iff_eq.mp M.fn) (codeAny_mono (F.run _ X.stack _ _ ⟨Value.ref (s.heap.objs.size+1)::us,[]⟩ (Value.ref (s.heap.objs.size+1)::(us++ds)) _ _ (E U) (hr.make C us [])
  (I2.dc.make C us []) (hb _ (Value.ref (s.heap.objs.size+1)::us) I2.aJ hl) r2 hq) λr s' hq'=>?_))
 cases r with
 |error e=>exact hx Y U _ _ e s' I2 hq'
 |ok fl=>
  cases fl with
  |ret u=>
   obtain⟨v,H',I3,rv,ev,q3⟩:=I2.after hq';subst ev;exact⟨rv,⟨V.ref (s.heap.objs.size+1),H',I3,rfl,q3⟩⟩
  |next=>exact False.elim hq'
  |brk=>exact False.elim hq'
  |cont=>exact False.elim hq'
def qm (M:Mk X.K C f)(F:ba X.prog X.w X.K X.mg X.base CX k f fd ps sp)(hr:aG (k+1) X.A)(hg:Gl X x)(hm:X.mg x=some (.ref C))(hb:Binds X.K fd ps ds)(hd:Vals dvs ds)(hx:Passes CX X E)
  (ha:PA X (e::es) t) (hdb:(x ==("__debug__":Str))=false:=by decide) (he:bi (e::es) X.env=(false,eval e X.env)::bi es X.env:=by rfl) (hpl:(backTo pos (bi es X.env)).any (·.1)=false:=by rfl):
  PE X (.Call (.Name x p) (e::es) [] pos) (sF C sp dvs E t):=by
 intro Y s U H Q I h;refine bn (aI I hg hm ?_ hdb);refine W.callWith_K (h₀:=X.base) I.ok.mod.kin M.kp (ak (ha pos Y s U H _ I h) λus s1 ⟨vs,H1,I1,r,q⟩=>⟨I1.aJ,?_⟩) he hpl;exact iA M F hr hb hd hx I1 r q
def mC (M:Mk X.K C f)(F:ba X.prog X.w X.K X.mg X.base CX k f fd ps sp)(hr:aG (k+1) X.A)(hg:Gl X x)(hm:X.mg x=some (.ref C))(hb:Binds X.K fd ps ds)(hd:Vals dvs ds)(hx:Passes CX X E)
  (hdb:(x ==("__debug__":Str))=false:=by decide):PE X (.Call (.Name x p) [] [] pos) (sF C sp dvs E ql):=by
 intro Y s U H Q I h;refine bn (aI I hg hm ?_ hdb);exact W.callWith_K0 I.aJ M.kp (iA (us:=[]) M F hr hb hd hx I .nil h)
end
section
variable {X:Cx}{CX:kb}{k:Nat}{f C:Addr}{fd:FuncData}{ps ks:List Str}{sp:Sp}{E:St->XK}{x m:Str}{p pos apos kpos:Pos}{e o:Expr}{es:List Expr}{kws:List Keyword}{te ta:TE}{t tk:TA}{nm:Option Str}
variable {g:List Value->List Value->List Value}{gV:List V->List V->List V}
end
structure dR (N P:List Str) (sc:Scope):Prop where
 kind:sc.kind=.function
 co:sc.isCoroutine=false
 gen:sc.isGenerator=false
 nd:N.Nodup
 pre:N.take P.length=P
 par:∀ x ∈ P,sc.names.lookup x=some .local\/sc.names.lookup x=some .cell
 nofree:∀ y ∈ sc.names,y.2≠.free
def gb {kindOf:Str->Option NameKind}{x:Str}:∀ {binds:List (Str×Value)}{m:AF},(∀ v,(x,v) ∉ binds)->bindL kindOf binds m x=m x
 | [],_,_=>rfl
 |(n,v)::r,m,h=>by
  unfold bindL;rw[gb λw hw=>h w (db _ hw)]
  split
  .have:x≠n:=by rintro rfl;exact h v jp
   simp[this]
  .rfl
def fQ {kindOf:Str->Option NameKind}{x:Str}:∀ {binds:List (Str×Value)}{m:AF},(∀ v,(x,v) ∉ binds)->bindC kindOf binds m x=m x
 | [],_,_=>rfl
 |(n,v)::r,m,h=>by
  unfold bindC;rw[fQ λw hw=>h w (db _ hw)]
  split
  .rfl
  .have:x≠n:=by rintro rfl;exact h v jp
   simp[this]
def fL {kindOf:Str->Option NameKind}{x:Str}{v:Value}:∀ {P:List Str}{vs:List Value}{i:Nat}{m:AF},P.Nodup->P[i]? =some x->vs[i]? =some v->kindOf x=some .local->
  bindL kindOf (P.zip vs) m x=some v
 | [],_,_,_,_,h,_,_=>by simp at h
 |_::_,[],_,_,_,_,h,_=>by simp at h
 |p::P,w::vs,0,m,nd,h1,h2,hk=>by
  simp at h1 h2;subst h1;subst h2;show bindL kindOf ((p,w)::P.zip vs) m p=_;unfold bindL;rw[gb λv hv=>(nodup_cons.mp nd).1 (of_mem_zip hv).1,if_pos hk];simp
 |p::P,w::vs,i+1,m,nd,h1,h2,hk=>by
  show bindL kindOf ((p,w)::P.zip vs) m x=_;unfold bindL;exact fL (i:=i) (nodup_cons.mp nd).2 (by simpa using h1) (by simpa using h2) hk
def fX {kindOf:Str->Option NameKind}{x:Str}{v:Value}:∀ {P:List Str}{vs:List Value}{i:Nat}{m:AF},P.Nodup->P[i]? =some x->vs[i]? =some v->kindOf x≠some .local->
  bindC kindOf (P.zip vs) m x=some v
 | [],_,_,_,_,h,_,_=>by simp at h
 |_::_,[],_,_,_,_,h,_=>by simp at h
 |p::P,w::vs,0,m,nd,h1,h2,hk=>by
  simp at h1 h2;subst h1;subst h2;show bindC kindOf ((p,w)::P.zip vs) m p=_;unfold bindC;rw[fQ λv hv=>(nodup_cons.mp nd).1 (of_mem_zip hv).1,if_neg hk];simp
 |p::P,w::vs,i+1,m,nd,h1,h2,hk=>by
  show bindC kindOf ((p,w)::P.zip vs) m x=_;unfold bindC;exact fX (i:=i) (nodup_cons.mp nd).2 (by simpa using h1) (by simpa using h2) hk
abbrev start (N:List Str)(vs:List V):St:=vs.map some++pc (N.length-vs.length) none
abbrev lz (CX:kb)(P:Program)(w:World)(K:W.Frag)(mg:AF)(base:Heap)(N:List Str)(qual:Str)(scope:Scope)(f:Addr)(cd:Value)(A:Around)(outer:List Env)(s:Shared)(H:Hp)(E:XK):Cx where
 prog:=P
 w:=w
 K:=K
 mg:=mg
 base:=base
 A:=A.deeper (envOfC qual scope s.heap.objs.size f cd)
 N:=N
 s₀:=s
 H₀:=H
 env:=envOfC qual scope s.heap.objs.size f cd
 outer:=outer
 stack:=envOfC qual scope s.heap.objs.size f cd::outer
 ex:=[]
 calm:=true
 fn:=λ_=>true
 pn:=[]
 xe:=λe s'=>wpAny (model P w) (A.deeper (envOfC qual scope s.heap.objs.size f cd)) (leaving (envOfC qual scope s.heap.objs.size f cd) e) (λ_ s''=>CX outer H s E e s'') (λe' s''=>CX outer H s E e' s'') s'
def iz {sc:Scope}{n:Nat}(h:sc.names.lookup x=some .cell):∃ c,(cellsFrom n sc.names []).lookup x=some c:=by
 have q:=W.cellsFrom_some sc.names n [] (.inl h);exact Option.isSome_iff_exists.mp q
variable {scope:Scope}
def lH {N:List Str}{qual:Str}{f:Addr}{cd:Value}{s1:Shared}{E:XK}
  (S:dR N ps scope) (hd:A.handled=none) (e0:jt P w K mg base A outer s H) (hl:vs.length=ps.length) (r:Vals vs us)
  (x:InCallC s s.heap.objs.size (bindL (envOfC qual scope s.heap.objs.size f cd).kindOf (ps.zip us) λ_=>none) (cellsFrom (s.heap.objs.size+1) scope.names []) (bindC (envOfC qual scope s.heap.objs.size f cd).kindOf (ps.zip us) λ_=>none) s1):
  Inv (lz CX P w K mg base N qual scope f cd A outer s H E) [] (start N vs) H s1:=by
 have hpl:ps.length<=N.length:=by have:=congrArg List.length S.pre;rw[cr]at this;omega
 obtain⟨h1,tk,rfl,hk⟩:=x.done;have noA:∀ b:Addr,b ∉ (lz CX P w K mg base N qual scope f cd A outer s H E).ex:=λb z=>absurd (show b ∈ ([]:List Addr) from z) (by simp)
 refine⟨⟨e0.mod,S.kind,rfl,rfl,nl _,λy z c h1 h2=>?_,λy hy=>?_,λy c _ h=>?_,λ_=>hd,Around.frames_deeper e0.frames,.inr ⟨rfl,rfl⟩,λb z=>absurd z (noA b),e0.bs,e0.bsz,λb _ _=>noA b,λb z=>absurd z (noA b),e0.fj,e0.frf⟩,
  rfl,e0.bare,Un.kept hk,⟨_,x.toInCall.ns,λi y v h1 h2 h3=>?_⟩,λy c h=>⟨_,x.cell y c h⟩,e0.hok.fresh (nl _),λy c h=>?_,λp hp=>absurd (show p ∈ ([]:AE) from hp) (by simp),e0.hok.kept hk,?_⟩
 .exact name_of_addr x.apart (PySem.mem_of_lookup h1) (PySem.mem_of_lookup h2)
 .have hy:scope.names.lookup y=some .cell\/scope.names.lookup y=some .free:=hy;rcases hy with hy|hy
  .exact iz hy
  .exact absurd rfl (S.nofree _ (PySem.mem_of_lookup hy))
 .exact Nat.le_of_lt (x.above y c (PySem.mem_of_lookup h))
 .have hi:i<vs.length:=by
   unfold start at h2
   by_cases hi:i<vs.length
   .exact hi
   .rw[getElem?_append_right (by simpa using hi)]at h2;rw[List.getElem?_replicate]at h2
    split at h2<;>cases h2
  have ha:vs[i]? =some v:=by
   unfold start at h2;rw[List.getElem?_append_left (by simpa using hi),gt]at h2;cases e:vs[i]? with
   |none=>rw[e]at h2;cases h2
   |some a=>rw[e]at h2;cases h2;rfl
  obtain⟨u,hu,rv⟩:=r.get ha;have hp:ps[i]? =some y:=by
   rw[<-S.pre,List.getElem?_take_of_lt nofun];exact h1
  have ndP:ps.Nodup:=by rw[<-S.pre];exact S.nd.sublist (take_sublist _ _)
  refine⟨u,rv,?_⟩;rcases S.par y (ci hp) with k|k
  .exact .inl ⟨k,fL ndP hp hu k⟩
  .obtain⟨c,e⟩:=iz (n:=s.heap.objs.size+1) k;refine .inr ⟨.inl k,c,e,?_⟩;have q:=x.cell y c e;rw[fX ndP hp hu (by show scope.names.lookup y≠_;rw[k];decide)]at q;exact q
 .exact e0.hok.fresh (Nat.le_of_lt (x.above y c (PySem.mem_of_lookup h)))
 .unfold start;show _=N.length;rw[ce,bv,length_replicate]
  omega
def xx {f:Addr}{name qual:Str}{params:Arguments}{dV kV doc pm cdv ct oc:Value}{an od:Option Addr}
  {osl:Array (Option Value)}{N:List Str}{sp:Sp}(lk:K.lookup f=some ⟨oc,od,.func (W.fnOf name qual params body scope dV kV doc pm an cdv ct),osl⟩) (hcd:W.codeIn K cdv qual=true) (S:dR N ps scope)
  (len:∀ vs H Q E,sp vs H Q E->vs.length=ps.length)
  (hbody:∀ (A:Around) (outer:List Env) (s:Shared) (H:Hp) (vs:List V) (Q:VK) (E:XK),aG k (A.deeper (envOfC qual scope s.heap.objs.size f cdv))->sp vs H Q E->
   ∃ t,sq (lz CX P w K mg base N qual scope f cdv A outer s H E) body t/\t { nx:=λ_ H'=>Q .non H',rt:=Q } (start N vs) H):
  ba P w K mg base CX (k+1) f (W.fnOf name qual params body scope dV kV doc pm an cdv ct) ps sp:=by
 refine⟨len,λA outer s H args us vs Q E hr e0 hb r hsp=>?_⟩;have hl:=len _ _ _ _ hsp;have KX:K.In s.heap:=e0.mod.kin.keeps λb o e=>(e0.bs b o e).1
 have lim:s.heap.NoLimit:=e0.mod.nolimit.keeps λb o e=>(e0.bs b o e).1
 have hkind:∀ y ∈ ps.zip us,scope.names.lookup y.1=some .local\/(scope.names.lookup y.1=some .cell/\((cellsFrom (s.heap.objs.size+1) scope.names []).lookup y.1).isSome=true):=λ⟨n,v⟩ hy=>by
  rcases S.par n (of_mem_zip hy).1 with q|q
  .exact .inl q
  .exact .inr ⟨q,W.cellsFrom_some _ _ _ (.inl q)⟩
 refine codeAny_call_function hr.depth (KX _ _ lk) rfl S.co S.gen rfl (W.codeRec_of KX hcd) (hb _ _ _ _ ?_);refine wpAny_newFunctionEnv_cells S.kind hkind λenv he s1 x=>?_
 subst he;refine⟨lim.keeps x.toInCall.keep,codeAny_func ?_⟩;obtain⟨t,ht,hq⟩:=hbody A outer s H vs Q E (hr.deeper _) hsp;have I:Inv (lz CX P w K mg base N qual scope f cdv A outer s H E) [] (start N vs) H s1:=lH S hr.hd e0 hl r x;refine wpAny_mono (ht [] s1 (start N vs) H _ I hq) (λfl s' hs=>?_) λe s' hs=>hs
 have fin:∀ {σ':St}{H':Hp}{v:V}{u:Value},Inv (lz CX P w K mg base N qual scope f cdv A outer s H E) [] σ' H' s'->RelV v u->Q v H'->CE outer P w H s Q u s':=
  λ{σ' H' v u} J rv q=>⟨v,H',J.os,J.bare,J.base,J.hok,rv,q⟩
 cases fl with
 |ret u=>
  obtain⟨v,σ',H',J,rv,q⟩:=hs;exact fin J rv q
 |next=>
  obtain⟨σ',H',J,q⟩:=hs;exact fin (v:=V.non) (u:=Value.none) J rfl q
 |brk=>
  obtain⟨_,_,_,q⟩:=hs;exact False.elim q
 |cont=>
  obtain⟨_,_,_,q⟩:=hs;exact False.elim q
section
variable {X:Cx}{x:Str}{p pos:Pos}{e:Expr}{es:List Expr}{t:TA}{id T:String}{r:List V->Hp->VK->Prop}
abbrev zE (r:List V->Hp->VK->Prop)(t:TA):TE:=λU H Q=>t U H λvs H1=>r vs H1 Q
def il (hc:bt X (.builtin id) r)(hg:Gl X x)(hm:X.mg x=none)(hv:bootBuiltins x=some (.builtin id))(ha:PA X (e::es) t)(hn:x≠"__name__":=by decide) (hdb:(x ==("__debug__":Str))=false:=by decide)
  (he:bi (e::es) X.env=(false,eval e X.env)::bi es X.env:=by rfl) (hpl:(backTo pos (bi es X.env)).any (·.1)=false:=by rfl):PE X (.Call (.Name x p) (e::es) [] pos) (zE r t):=by
 intro Y s U H Q I h;refine bn (eG I hg hm hv ?_ hn hdb);exact PyProof.Rows.callWith_builtin1 (ak (ha pos Y s U H _ I h) λus s1 ⟨vs,H1,I1,r1,q1⟩=>hc Y s1 U H1 vs us Q I1 r1 q1) he hpl
def kW (hc:bt X (.type T) r)(hg:Gl X x)(hm:X.mg x=none)(hv:bootBuiltins x=some (.type T))(ha:PA X (e::es) t)(hn:x≠"__name__":=by decide) (hdb:(x ==("__debug__":Str))=false:=by decide)
  (he:bi (e::es) X.env=(false,eval e X.env)::bi es X.env:=by rfl) (hpl:(backTo pos (bi es X.env)).any (·.1)=false:=by rfl):PE X (.Call (.Name x p) (e::es) [] pos) (zE r t):=by
 intro Y s U H Q I h;refine bn (eG I hg hm hv ?_ hn hdb);exact PyProof.Rows.callWith_type1 (ak (ha pos Y s U H _ I h) λus s1 ⟨vs,H1,I1,r1,q1⟩=>hc Y s1 U H1 vs us Q I1 r1 q1) he hpl
end
end L2
namespace HT
open PySem PyProof.Rows
section
open PySem.SeqAt
open PySem.AutoSeq1 (wpAny_loadPart')
open PySem.MeetsSeq PySem.MeetsSeq2 PySem.MeetsSeq3
end
section
variable {prog:Program}{w:World}{A:Around}{E:AD}{s:Shared}
abbrev cf (n d:Nat):Option Int->Nat
 |none=>d
 |some v=>if v<0 then(v+(n:Int)).toNat else min v.toNat n
def vC (n d:Nat)(hd:d<=n)(o:Option Int):cf n d o<=n:=by
 cases o with
 |none=>exact hd
 |some v=>
  show(if v<0 then(v+(n:Int)).toNat else min v.toNat n)<=n
  by_cases hv:v<0
  .rw[if_pos hv];omega
  .rw[if_neg hv];exact Nat.min_le_right _ _
end
end HT
namespace L2
open PySem PySem.Spec PyProof.Rows
@[reducible]def TO:=St->Hp->(Option Int->Hp->Prop)->Prop
abbrev PO (X:Cx)(e:Option Expr)(t:TO):Prop:=
 ∀ (Y:AE) (s:Shared) (U:St) (H:Hp) (Q:Option Int->Hp->Prop),Inv X Y U H s->t U H Q->
  wpAny (model X.prog X.w) X.A (evalPart e X.env) (λu s'=>∃ o H',Inv X Y U H' s'/\IsPart u o/\Q o H') X.xe s
abbrev rD:TO:=λ_ H Q=>Q none H
abbrev wu (t:TE):TO:=λU H Q=>t U H λx H1=>∃ i,x=.int i/\Q (some i) H1
section
variable {X:Cx}{e:Expr}{te:TE}{lo hi:Option Expr}{tl th:TO}{pos p2:Pos}
def p6:PO X none rD:=by
 intro Y s U H Q I h;rw[evalPart_none];exact am ⟨none,H,I,.none,h⟩
def pI (h:PE X e te):PO X (some e) (wu te):=by
 intro Y s U H Q I hw;rw[evalPart_some];refine ak (h Y s U H _ I hw) λu s1 ⟨x,H1,I1,r1,q1⟩=>?_
 obtain⟨i,rfl,q⟩:=q1;obtain⟨t,rfl⟩:=r1;exact⟨some i,H1,I1,.int i t,q⟩
abbrev wm (X:Cx)(r:V->Option Int->Option Int->Hp->VK->Prop):Prop:=
 ∀ (Y:AE) (s:Shared) (U:St) (H:Hp) (x:V) (v vl vu:Value) (lo hi:Option Int) (sl:Addr) (Q:VK),Inv X Y U H s->RelV x v->s.heap.IsSliceOf sl vl vu .none->IsPart vl lo->IsPart vu hi->r x lo hi H Q->
  ∃ T id,typeLookup (.type T) "__getitem__"=pure (some (.builtin id))/\s.TypeIs v T/\wpAny (model X.prog X.w) X.A (getItem v (.ref sl)) (EP X Y U Q) X.xe s
abbrev zQ (r:V->Option Int->Option Int->Hp->VK->Prop)(te:TE)(tl th:TO):TE:=λU H Q=>te U H λx H1=>tl U H1 λl H2=>th U H2 λu H3=>r x l u H3 Q
def mX {r:V->Option Int->Option Int->Hp->VK->Prop}(hr:wm X r)(he:PE X e te)(hl:PO X lo tl)(hu:PO X hi th):PE X (.Subscript e (.Slice lo hi none p2) pos) (zQ r te tl th):=by
 intro Y s U H Q I h;refine Subscript_ (ak (he Y s U H _ I h) λv s1 ⟨x,H1,I1,r1,q1⟩=>?_);refine wpAny_Slice (ak (hl Y s1 U H1 _ I1 q1) λvl s2 ⟨l,H2,I2,pl,q2⟩=>ak (hu Y s2 U H2 _ I2 q2) λvu s3 ⟨u,H3,I3,pu,q3⟩=>?_);rw[evalPart_none];refine am ?_;have I4:Inv X Y U H3 { s3 with heap:=s3.heap.push { cls:=.type "slice",data:=.fields #[vl,vu,.none] } }:=I3.kept (t':=s3.toks) λb ob q=>re _ q
 obtain⟨T,id,hT,ht,hg⟩:=hr Y { s3 with heap:=s3.heap.push { cls:=.type "slice",data:=.fields #[vl,vu,.none] } } U H3 x v vl vu l u s3.heap.objs.size Q I4 r1 (Heap.IsSliceOf.new ..) pl pu q3;show wpAny (model X.prog X.w) X.A (subscriptTail e (.Slice lo hi none p2) v (.ref s3.heap.objs.size)) (EP X Y U Q) X.xe { s3 with heap:=s3.heap.push { cls:=.type "slice",data:=.fields #[vl,vu,.none] } };exact tail_any (ops:=[.ref s3.heap.objs.size,v]) ht hT hg (by with_unfolding_all rfl)
abbrev hX (xs:List V)(lo hi:Option Int):List V:=(xs.drop (HT.cf xs.length 0 lo)).take (HT.cf xs.length xs.length hi-HT.cf xs.length 0 lo)
def i4 (xs:List V)(lo hi:Option Int):(hX xs lo hi).length<=xs.length:=by
 unfold hX;rw[cr,ii]
 omega
end
abbrev lG (n:Nat)(i:Int):Option Nat:=if 0<=i then(if i<n then some i.toNat else none) else if -(n:Int)<=i then some (i+n).toNat else none
variable {α:Type}
abbrev fR (xs:List α)(i:Int):Option α:=(lG xs.length i).bind λj=>xs[j]?
variable {n:Nat}
def j5 {i:Int}{j:Nat}(h:lG n i=some j):seqIndex? i n=some j/\j<n/\ -(n:Int)<=i/\i<n:=by
 unfold lG at h
 by_cases h0:0<=i
 .rw[if_pos h0]at h
  by_cases h1:i<n
  .rw[if_pos h1]at h;have e:i.toNat=j:=Option.some.inj h;exact⟨by rw[seqIndex_of h0 h1,e],by omega,by omega,h1⟩
  .rw[if_neg h1]at h;cases h
 .rw[if_neg h0]at h
  by_cases h1: -(n:Int)<=i
  .rw[if_pos h1]at h;have e:(i+n).toNat=j:=Option.some.inj h;exact⟨by rw[seqIndex_neg nofun h1,e],by omega,h1,by omega⟩
  .rw[if_neg h1]at h;cases h
def gE {xs:List α}{i:Int}{v:α}(h:fR xs i=some v):∃ j,seqIndex? i xs.length=some j/\xs[j]? =some v/\j<xs.length/\ -(xs.length:Int)<=i/\i<xs.length:=by
 unfold fR at h;cases e:lG xs.length i with
 |none=>rw[e]at h;cases h
 |some j=>
  rw[e]at h;obtain⟨h1,h2,h3,h4⟩:=j5 e;exact⟨j,h1,h,h2,h3,h4⟩
def rj {xs:List α}{j:Nat}{v:α}(h:xs[j]? =some v):fR xs (j:Int)=some v:=by
 have hj:j<xs.length:=(pi.mp h).1;have e:lG xs.length (j:Int)=some j:=by
  unfold lG;rw[if_pos nofun,if_pos nofun];simp
 unfold fR;rw[e];exact h
abbrev j7 (b:Expr):Prop:=∀ o i,subscripted b false o i=operate [o,i] (getItem o i)
abbrev vX (X:Cx)(r:R2):Prop:=
 ∀ (value slice:Expr) (Y:AE) (s:Shared) (U:St) (H:Hp) (x y:V) (v u:Value) (Q:VK),Inv X Y U H s->RelV x v->RelV y u->r x y H Q->
  subscripted slice false v u=operate [v,u] (getItem v u)->wpAny (model X.prog X.w) X.A (subscriptTail value slice v u) (EP X Y U Q) X.xe s
abbrev sN (X:Cx)(id:String)(r:V->List V->Hp->VK->Prop):Prop:=
 ∀ (Y:AE) (s:Shared) (U:St) (H:Hp) (x:V) (xs:List V) (v:Value) (us:List Value) (Q:VK),Inv X Y U H s->RelV x v->Vals xs us->r x xs H Q->
  wpAny (model X.prog X.w) X.A (call (.builtin id) (v::us)) (EP X Y U Q) X.xe s
variable {Y:AE}{U:St}{H:Hp}{s:Shared}{y:V}{u:Value}
section
variable {X:Cx}{a b:Expr}{ta tb:TE}{pos:Pos}
def xR {r:R2}(hr:vX X r)(ha:PE X a ta)(hb:PE X b tb)(hs:j7 b):PE X (.Subscript a b pos) (xU r ta tb):=by
 intro Y s U H Q I h;exact Subscript_ (tG ha hb I h λv u s2 x y H2 I2 rx ry q=>hr a b Y s2 U H2 x y v u Q I2 rx ry q (hs _ _))
abbrev yH (K:W.Frag):R2:=λx y H Q=>∃ p xs i v,x=.ref p/\y=.int i/\ax K H p xs/\fR xs i=some v/\Q v H
abbrev yK (K:W.Frag):R2:=λx y H Q=>∃ p xs i v,x=.ref p/\y=.int i/\a9 K H p xs/\fR xs i=some v/\Q v H
abbrev yl:R2:=λx y H Q=>∃ z i c,x=.str z/\y=.int i/\z.length<=bm/\fR z.cps.toList i=some c/\Q (.str ⟨#[c]⟩) H
def qH:vX X (yH X.K):=by
 intro value slice Y s U H x y v u Q I rx ry h hs;obtain⟨p,xs,i,z,rfl,rfl,hq,he,q⟩:=h;cases rx;obtain⟨t,rfl⟩:=ry;obtain⟨its,r,pl,hz⟩:=I.list hq;obtain⟨j,h1,h2,h3,h4,h5⟩:=gE he;obtain⟨w,ew,rw'⟩:=r.get h2;have hl:=r.length;have hn:=cx;have fin:EP X Y U Q w s:=⟨z,H,I,rw',q⟩
 by_cases h0:0<=i
 .have hj:i.toNat=j:=by
   rw[seqIndex_of h0 h5]at h1;exact Option.some.inj h1
  exact item_listR pl.isList h0 nofun (by rw[hj];simpa using ew) fin hs
 .have hj:(i+(its.toArray.size:Int)).toNat=j:=by
   rw[seqIndex_neg nofun h4]at h1;rw[f8,<-hl];exact Option.some.inj h1
  exact subscriptTail_builtinR (x:=w) pl.isList.typeIs slot_list_getitem.lookup
   (wpAny_getItem_list_neg (Q:=λr s'=>r=w/\EP X Y U Q r s') pl.isList nofun (by rw[f8]<;>omega) nofun (by rw[hj];simpa using ew) ⟨rfl,fin⟩) hs
def vf:vX X (yK X.K):=by
 intro value slice Y s U H x y v u Q I rx ry h hs;obtain⟨p,xs,i,z,rfl,rfl,hq,he,q⟩:=h;cases rx;obtain⟨t,rfl⟩:=ry;obtain⟨its,r,pl,hz⟩:=I.tuple hq;obtain⟨j,h1,h2,h3,h4,h5⟩:=gE he;obtain⟨w,ew,rw'⟩:=r.get h2;have hl:=r.length;have hn:=cx;have fin:EP X Y U Q w s:=⟨z,H,I,rw',q⟩;exact subscriptTail_builtinR (x:=w) pl.typeIs slot_tuple_getitem.lookup
  (getItem_tuple (j:=j) (Q:=λr s'=>r=w/\EP X Y U Q r s') pl nofun nofun (by rw[f8,<-hl];exact h1) (by simpa using ew) ⟨rfl,fin⟩) hs
def vn:vX X yl:=by
 intro value slice Y s U H x y v u Q I rx ry h hs;obtain⟨z,i,c,rfl,rfl,hz,he,q⟩:=h;obtain⟨t,rfl⟩:=rx;obtain⟨t',rfl⟩:=ry;obtain⟨j,h1,h2,h3,h4,h5⟩:=gE he;have hl:z.cps.toList.length=z.length:=by simp[Str.length]
 rw[hl]at h1 h4 h5;have hn:=cx;exact tail_any (typeIs_str s z t) slot_str_getitem.lookup (getItem_str (c:=c) (by
  have e1:decide (i< -(2 ^ 63:Int))=false:=decide_eq_false nofun;have e2:decide (i>=2 ^ 63)=false:=decide_eq_false nofun;rw[e1,e2,Bool.or_false]) (by rw[h1];simpa using h2) ⟨.str ⟨#[c]⟩,H,I.tok _,⟨_,rfl⟩,q⟩) hs
def jy (its:List Value)(n j:Nat)(u:Value):Obj.mapSeq (·.setIfInBounds j u) { cls:=.type "list",data:=.seq its.toArray n }={ cls:=.type "list",data:=.seq (its.set j u).toArray n }:=by
 simp[Obj.mapSeq]
def Inv.lst {Y:AE}{U:St}{H:Hp}{s:Shared}{p:Addr}{xs:List V}(I:Inv X Y U H s)(h:H p=some (.lst xs)):
  ∃ (its:List Value) (n:Nat),Vals xs its/\s.heap.get? p=some { cls:=.type "list",data:=.seq its.toArray n }/\xs.length<=bm:=by
 obtain⟨z,its,n,r,e⟩:=I.hok p _ h;exact⟨its,n,r,e,z⟩
def Inv.vV {p:Addr}{xs ys:List V}{its its':List Value}{n':Nat}{f:Obj->Obj}(I:Inv X Y U H s)(h:H p=some (.lst xs))
  (ho:s.heap.get? p=some { cls:=.type "list",data:=.seq its.toArray n }) (hf:f { cls:=.type "list",data:=.seq its.toArray n }={ cls:=.type "list",data:=.seq its'.toArray n' }) (r:Vals ys its') (hz:ys.length<=bm) (t:Nat):
  Inv X Y U (upd H p (.lst ys)) { s with heap:=s.heap.update p f,toks:=t }:=by
 have e:(s.heap.update p f).get? p=some { cls:=.type "list",data:=.seq its'.toArray n' }:=by
  rw[Heap.get?_update_self f ho (by rw[hf]<;>rfl),hf]
 refine I.write (x:=p) (e:=p) (by rw[h];trivial) (.inl rfl) (λb u hb q=>(Heap.get?_update_other _ _ (Ne.symm hb)).trans q) ⟨_,e⟩ ?_;exact⟨hz,its',n',r,e⟩
abbrev xj:V->V->V->Hp->(Hp->Prop)->Prop:=λo i v H Q=>∃ p xs k j,o=.ref p/\i=.int k/\H p=some (.lst xs)/\lG xs.length k=some j/\Q (upd H p (.lst (xs.set j v)))
def set_list:pH X xj:=by
 intro Y s U H o i v ov iv u Q I ro ri rv h;obtain⟨p,xs,k,j,rfl,rfl,hp,hj,q⟩:=h;cases ro;obtain⟨t,rfl⟩:=ri;obtain⟨its,n,r,ho,hz⟩:=I.lst hp;obtain⟨h1,h2,h3,h4⟩:=j5 hj;have hl:=r.length;have hn:=cx;have I':Inv X Y U (upd H p (.lst (xs.set j v))) { s with heap:=s.heap.update p (Obj.mapSeq (·.setIfInBounds j u)) }:=
  I.vV hp ho (jy its n j u) (r.set rv j) (by rw[length_set];exact hz) s.toks
 by_cases h0:0<=k
 .have hk:k.toNat=j:=by
   rw[seqIndex_of h0 h4]at h1;exact Option.some.inj h1
  exact W.ki_setAt ho h0 nofun (by rw[f8,<-hl];exact h4) (by rw[hk];exact⟨_,I',q⟩)
 .have hk:(k+(its.toArray.size:Int)).toNat=j:=by
   rw[seqIndex_neg nofun h3]at h1;rw[f8,<-hl];exact Option.some.inj h1
  exact W.ki_setBack ho nofun (by rw[f8,<-hl];exact h3) nofun (by rw[hk];exact⟨_,I',q⟩)
def gy (lo hi:Option Int)(n:Nat):(sliceBounds lo hi none n).1=((HT.cf n 0 lo:Nat):Int)/\(sliceBounds lo hi none n).2.1=((HT.cf n n hi:Nat):Int)/\(sliceBounds lo hi none n).2.2=1:=by
 refine⟨?_,?_,rfl⟩
 .cases lo with
  |none=>simp[sliceBounds,HT.cf]
  |some i=>
   simp only[sliceBounds,HT.cf,Option.getD_none,show(1:Int)>0 by decide,if_true]
   by_cases h:i<0
   .simp only[h,if_true]<;>omega
   .simp only[h,if_false]<;>omega
 .cases hi with
  |none=>simp[sliceBounds,HT.cf]
  |some i=>
   simp only[sliceBounds,HT.cf,Option.getD_none,show(1:Int)>0 by decide,if_true]
   by_cases h:i<0
   .simp only[h,if_true]<;>omega
   .simp only[h,if_false]<;>omega
def fE (its:List Value)(lo hi:Option Int):slicePick its.toArray lo hi none=((its.drop (HT.cf its.length 0 lo)).take (HT.cf its.length its.length hi-HT.cf its.length 0 lo)).toArray:=by
 obtain⟨h1,h2,h3⟩:=gy lo hi its.toArray.size;unfold slicePick;rw[h1,h2,h3];simp only[sliceRange_one,pick_run,f8]<;>rfl
abbrev yA (K:W.Frag):V->Option Int->Option Int->Hp->VK->Prop:=λx lo hi H Q=>∃ a xs,x=.ref a/\ax K H a xs/\∀ p,H p=none->Q (.ref p) (upd H p (.lst (hX xs lo hi)))
def rJ:wm X (yA X.K):=by
 intro Y s U H x v vl vu lo hi sl Q I rx hs pl pu h;obtain⟨a,xs,rfl,hx,q⟩:=h;cases rx;obtain⟨its,r,ht,hz⟩:=I.list hx;have hlen:=r.length;refine⟨"list",_,slot_list_getitem.lookup,ht.isList.typeIs,?_⟩;refine wpAny_getItem_list_slice ht.isList hs pl pu .none (by simp) ?_ (by rw[f8]<;>omega);rw[fE,<-hlen];refine⟨.ref s.heap.objs.size,_,I.laid (t':=s.toks) (o:=.lst (hX xs lo hi)) (λb ob q=>re _ q) (nl _) ?_,rfl,q _ (I.hok.fresh (nl _))⟩;exact⟨Nat.le_trans (i4 xs lo hi) hz,_,0,(r.drop (HT.cf xs.length 0 lo)).take (HT.cf xs.length xs.length hi-HT.cf xs.length 0 lo),ss _ rfl⟩
abbrev aw:V->Bool
 | .non=>true
 | .bl _=>true
 | .int _=>true
 | .str _=>true
 |_=>false
abbrev je:V->V->Bool
 | .non,.non=>true
 | .bl a,.bl b=>a ==b
 | .bl a,.int b=>(if a then 1 else 0) ==b
 | .int a,.bl b=>a ==(if b then 1 else 0)
 | .int a,.int b=>a ==b
 | .str a,.str b=>a ==b
 |_,_=>false
def oM {A:Around}{x:V}{v:Value}(ry:RelV y u)(rx:RelV x v)(fy:aw y=true)(fx:aw x=true):SeqAt.EqAt A s u v (je y x):=by
 cases y with
 |non=>
  cases ry;cases x with
  |non=>cases rx;exact SeqAt.EqAt.same _
  |bl b=>cases rx;exact SeqAt.EqAt.none_bool b
  |int b=>obtain⟨t,rfl⟩:=rx;exact SeqAt.EqAt.none_int b t
  |str b=>obtain⟨t,rfl⟩:=rx;exact SeqAt.EqAt.none_str b t
  |_=>exact absurd (show false=true from fx) Bool.false_ne_true
 |bl a=>
  cases ry;cases x with
  |non=>cases rx;exact SeqAt.EqAt.bool_none a
  |bl b=>cases rx;exact SeqAt.EqAt.bool_bool a b
  |int b=>obtain⟨t,rfl⟩:=rx;exact SeqAt.EqAt.bool_int a b t
  |str b=>obtain⟨t,rfl⟩:=rx;exact SeqAt.EqAt.bool_str a b t
  |_=>exact absurd (show false=true from fx) Bool.false_ne_true
 |int a=>
  obtain⟨t',rfl⟩:=ry;cases x with
  |non=>cases rx;exact SeqAt.EqAt.int_none a t'
  |bl b=>cases rx;exact SeqAt.EqAt.int_bool a t' b
  |int b=>obtain⟨t,rfl⟩:=rx;exact SeqAt.EqAt.int_int a t' b t
  |str b=>obtain⟨t,rfl⟩:=rx;exact SeqAt.EqAt.int_str a t' b t
  |_=>exact absurd (show false=true from fx) Bool.false_ne_true
 |str a=>
  obtain⟨t',rfl⟩:=ry;cases x with
  |non=>cases rx;exact SeqAt.EqAt.str_none a t'
  |bl b=>cases rx;exact SeqAt.EqAt.str_bool a t' b
  |int b=>obtain⟨t,rfl⟩:=rx;exact SeqAt.EqAt.str_int a t' b t
  |str b=>obtain⟨t,rfl⟩:=rx;exact SeqAt.EqAt.str_str a t' b t
  |_=>exact absurd (show false=true from fx) Bool.false_ne_true
 |_=>exact absurd (show false=true from fy) Bool.false_ne_true
abbrev qr (x:V)(u:Value):Bool:=match u with
 | .none=>je .non x
 | .bool b=>je (.bl b) x
 | .int i _=>je (.int i) x
 | .str z _=>je (.str z) x
 |_=>false
def md {x:V}(r:RelV y u)(f:aw y=true):qr x u=je y x:=by
 cases y with
 |non=>cases r;rfl
 |bl b=>cases r;rfl
 |int i=>obtain⟨t,rfl⟩:=r;rfl
 |str z=>obtain⟨t,rfl⟩:=r;rfl
 |_=>exact absurd (show false=true from f) Bool.false_ne_true
def hE {x:V}:∀ {xs:List V}{us:List Value},Vals xs us->xs.all aw=true->us.any (qr x)=xs.any λy=>je y x
 |_,_,.nil,_=>rfl
 |y::xs,u::us,.cons r t,f=>by
  rw[all_cons,lf]at f;rw[any_cons,any_cons,md r f.1,hE t f.2]
def dY {A:Around}{s:Shared}{x:V}{v:Value}(rx:RelV x v)(fx:aw x=true):∀ {xs:List V}{us:List Value},Vals xs us->xs.all aw=true->∀ u ∈ us,SeqAt.EqAt A s u v (qr x u)
 |_,_,.nil,_=>λu hu=>by cases hu
 |y::xs,u::us,.cons r t,f=>λu' hu=>by
  rw[all_cons,lf]at f;rcases le.mp hu with rfl|hu
  .rw[md r f.1];exact oM r rx f.1 fx
  .exact dY rx fx t f.2 u' hu
abbrev yh (x:V)(xs:List V):Bool:=xs.any λy=>je y x
abbrev Ah (K:W.Frag)(neg:Bool):R2:=λx y H Q=>∃ p xs,y=.ref p/\(ax K H p xs\/a9 K H p xs)/\aw x=true/\xs.all aw=true/\Q (.bl (if neg then !yh x xs else yh x xs)) H
def kX:a4 X (compareOp .In) (Ah X.K false):=by
 intro Y s U H x y v u Q I rx ry h;obtain⟨p,xs,rfl,hq,fx,fs,q⟩:=h;cases ry;rcases hq with hq|hq
 .obtain⟨its,r,pl,hz⟩:=I.list hq;refine SeqAt.in_listAt (qr x) pl.isList (λw hw=>dY rx fx r fs w (by simpa using hw)) ⟨.bl _,H,I,rfl,?_⟩;rw[show its.toArray.any (qr x)=its.any (qr x) by simp,hE r fs];exact q
 .obtain⟨its,r,pl,hz⟩:=I.tuple hq;refine SeqAt.in_tupleAt (qr x) pl (λw hw=>dY rx fx r fs w (by simpa using hw)) ⟨.bl _,H,I,rfl,?_⟩;rw[show its.toArray.any (qr x)=its.any (qr x) by simp,hE r fs];exact q
def gq:bt X (.type "list") (λxs H Q=>∃ p ys,xs=[.ref p]/\(ax X.K H p ys\/a9 X.K H p ys)/\∀ l,H l=none->Q (.ref l) (upd H l (.lst ys))):=by
 intro Y s U H xs us Q I r h;obtain⟨p,ys,rfl,hq,q⟩:=h;obtain⟨u,rfl,rx⟩:=vals1 r;cases rx;have fin:∀ (its:List Value),Vals ys its->ys.length<=bm->∀ (h':Heap) (c':Nat),(∀ b o',s.heap.get? b=some o'->h'.get? b=some o')->
   h'.get? s.heap.objs.size=some { cls:=.type "list",dict:=none,data:=.seq its.toArray c',slots:=#[] }->EP X Y U Q (.ref s.heap.objs.size) { s with heap:=h' }:=λits r' hz h' c' kp e=>
  ⟨.ref s.heap.objs.size,_,I.laid (t':=s.toks) kp (nl _) (show ao X.prog X.w _ h' _ (.lst ys) from⟨hz,its,c',r',e⟩),rfl,q _ (I.hok.fresh (nl _))⟩
 rcases hq with hq|hq
 .obtain⟨its,r',pl,hz⟩:=I.list hq;have hlen:=r'.length;obtain⟨o,ho,hc,n,hd⟩:=pl.isList;exact call_list_seq p (.inl rfl) ho hc hd (λh' c' kp e=>fin its r' hz h' c' kp e) (by simp only[f8]<;>omega)
 .obtain⟨its,r',pl,hz⟩:=I.tuple hq;have hlen:=r'.length;obtain⟨o,ho,hc,n,hd⟩:=pl;exact call_list_seq p (.inr rfl) ho hc hd (λh' c' kp e=>fin its r' hz h' c' kp e) (by simp only[f8]<;>omega)
def ft:bt X (.type "tuple") (λxs H Q=>∃ p ys,xs=[.ref p]/\((ax X.K H p ys/\∀ l,H l=none->Q (.ref l) (upd H l (.tup ys)))\/(a9 X.K H p ys/\Q (.ref p) H))):=by
 intro Y s U H xs us Q I r h;obtain⟨p,ys,rfl,h⟩:=h;obtain⟨u,rfl,rx⟩:=vals1 r;cases rx;rcases h with⟨hq,q⟩|⟨hq,q⟩
 .obtain⟨its,r',pl,hz⟩:=I.list hq;have hlen:=r'.length;refine call_tuple_list pl.isList (λh' kp=>?_) (by simp only[f8]<;>omega);have I1:Inv X Y U H { s with heap:=h' }:=I.kept (t':=s.toks) kp;have I2:Inv X Y U (upd H h'.objs.size (.tup ys)) { s with heap:=h'.push { cls:=.type "tuple",data:=.seq its.toArray } }:=
   I1.laid (t':=s.toks) (λb o e=>re _ e) (nl _) (show ao X.prog X.w _ _ _ (.tup ys) from⟨hz,its,r',IsTup.new _ _⟩)
  exact⟨.ref h'.objs.size,_,I2,rfl,q _ (I1.hok.fresh (nl _))⟩
 .obtain⟨its,r',pl,hz⟩:=I.tuple hq;exact call_tuple_same pl ⟨.ref p,H,I,rfl,q⟩
abbrev yr (K:W.Frag)(T:String)(x:V)(H:Hp):Prop:=match x with
 | .str _=>T="str"
 | .int _=>T="int"
 | .ref p=>(T="list"/\∃ xs,ax K H p xs)\/(T="tuple"/\∃ o,K.lookup p=some o/\o.cls=.type "tuple"/\o.dict=none)\/
   (T="dict"/\((∃ kvs,H p=some (.dK kvs))\/∃ kvs,H p=some (.dT kvs)))\/(T="set"/\∃ S n,H p=some (.set S n))
 |_=>False
def nq {T:String}{x:V}{v:Value}(I:Inv X Y U H s)(r:RelV x v)(ty:yr X.K T x H):
  s.TypeIs v T/\∀ a,v=.ref a->∃ ob,s.heap.get? a=some ob/\ob.dict=none:=by
 cases x with
 |str z=>
  obtain⟨t,rfl⟩:=r;cases(show T="str" from ty);exact⟨typeIs_str s z t,λ_ e=>nomatch e⟩
 |int i=>
  obtain⟨t,rfl⟩:=r;cases(show T="int" from ty);exact⟨typeIs_int s i t,λ_ e=>nomatch e⟩
 |ref p=>
  cases r;rcases ty with⟨rfl,xs,hq⟩|⟨rfl,o,hk,hc,hd⟩|⟨rfl,hk⟩|⟨rfl,S,n,hk⟩
  .obtain⟨its,_,pl,_⟩:=I.list hq;refine⟨pl.isList.typeIs,λa e=>?_⟩;cases e;obtain⟨o,n,e,c,hd,_⟩:=pl;exact⟨o,e,hd⟩
  .refine⟨⟨o,I.aJ p o hk,hc⟩,λa e=>?_⟩;cases e;exact⟨o,I.aJ _ o hk,hd⟩
  .have z:∃ o,s.heap.get? p=some o/\o.ExactDict:=by
    rcases hk with⟨kvs,hk⟩|⟨kvs,hk⟩
    .obtain⟨_,_,_,_,o,_,_,e,ex,_⟩:=I.hok p _ hk;exact⟨o,e,ex⟩
    .obtain⟨_,_,_,_,o,_,_,e,ex,_⟩:=I.hok p _ hk;exact⟨o,e,ex⟩
   obtain⟨o,e,ex⟩:=z;refine⟨⟨o,e,ex.1⟩,λa e2=>?_⟩;cases e2;exact⟨o,e,ex.2.1⟩
  .obtain⟨o,_,_,_,e,ex,_⟩:=I.hok p _ hk;refine⟨⟨o,e,ex.1⟩,λa e2=>?_⟩;cases e2;exact⟨o,e,ex.2.1⟩
 |_=>exact False.elim ty
abbrev yq (K:W.Frag)(T:String)(r:V->List V->Hp->VK->Prop)(to:TE):TE:=λU H Q=>to U H λx H1=>yr K T x H1/\r x [] H1 Q
abbrev Ad (K:W.Frag)(T:String)(r:V->List V->Hp->VK->Prop)(to:TE)(t:TA):TE:=λU H Q=>to U H λx H1=>yr K T x H1/\t U H1 λxs H2=>r x xs H2 Q
variable {o e:Expr}{es:List Expr}{to:TE}{t:TA}{name:Str}{apos cpos:Pos}{T id:String}{r:V->List V->Hp->VK->Prop}
def uP (pa:PlainAttrs T)(slot:Slot T name id)(hty:typeOf (.builtin id)=pure (.type "method_descriptor")) (hm:sN X id r) (ho:PE X o to)
  (hbase:attributeBase o name X.env (eval o X.env)=eval o X.env:=by rfl) (hline:(apos.endLine ==cpos.line)=true:=by rfl):PE X (.Call (.Attribute o name apos) [] [] cpos) (yq X.K T r to):=by
 intro Y s U H Q I h;refine wpAny_Call_method0_late hbase hline (ak (ho Y s U H _ I h) λv s1 ⟨x,H1,I1,r1,ty,q1⟩=>?_);obtain⟨h1,h2⟩:=nq I1 r1 ty;exact⟨T,id,pa,slot,hty,h1,h2,Calls.callWith_builtin rfl (PySem.evalArgs_none (hm Y s1 U H1 x [] v [] Q I1 r1 .nil q1))⟩
def sZ (pa:PlainAttrs T)(slot:Slot T name id)(hty:typeOf (.builtin id)=pure (.type "method_descriptor")) (hm:sN X id r) (ho:PE X o to) (ha:PA X (e::es) t)
  (hbase:attributeBase o name X.env (eval o X.env)=eval o X.env:=by rfl)
  (hfew:((backTo cpos (bi (e::es) X.env)).all (λx=>!x.1)&&(backToKw cpos (keywordEach [] X.env)).all (λx=>x.1.isSome)
   &&decide ((e::es).length+([]:List Keyword).length+(if([]:List Keyword).isEmpty then 0 else 1)<30))=true:=by rfl)
  (hline:(apos.endLine ==cpos.line)=true:=by rfl) (hs:bi (e::es) X.env=(false,eval e X.env)::bi es X.env:=by rfl) (hplain:(backTo cpos (bi es X.env)).any (·.1)=false:=by rfl):
  PE X (.Call (.Attribute o name apos) (e::es) [] cpos) (Ad X.K T r to t):=by
 intro Y s U H Q I h;refine wpAny_Call_method_late hbase hfew hline rfl (ak (ho Y s U H _ I h) λv s1 ⟨x,H1,I1,r1,ty,q1⟩=>?_);obtain⟨h1,h2⟩:=nq I1 r1 ty;refine⟨T,id,pa,slot,hty,h1,h2,?_⟩;have hA:=ha cpos Y s1 U H1 _ I1 q1;rw[hs]at hA⊢;refine Calls.callWith_builtin (by show(false||(backTo cpos (bi es X.env)).any (·.1))=false;rw[hplain]<;>rfl) (Calls.evalArgs_plain ?_);exact ak hA λus s2 ⟨vs,H2,I2,r2,q2⟩=>hm Y s2 U H2 x vs v us Q I2 r1 r2 q2
/- xs.append(e),list.index on a module's tuple .. are sN facts of 06m -/
end
abbrev yF (X:Cx)(id:String)(r:V->List V->Hp->VK->Prop):Prop:=
 ∀ (Y:AE) (s:Shared) (U:St) (H:Hp) (x:V) (xs:List V) (v:Value) (us:List Value) (Q:VK),Inv X Y U H s->RelV x v->Vals xs us->r x xs H Q->
  wpAny (model X.prog X.w) X.A (call (.builtin id) (v::us)) (EP X Y U Q) X.xe s
def Vals.one:∀ {x:V}{us:List Value},Vals [x] us->∃ u,us=[u]/\RelV x u
 |_,_,.cons r .nil=>⟨_,rfl,r⟩
def Vals.zero:∀ {us:List Value},Vals [] us->us=[]
 |_,.nil=>rfl
variable {us:List Value}
def Vals.reverse {xs:List V}(h:Vals xs us):Vals xs.reverse us.reverse:=by
 induction h with
 |nil=>exact .nil
 |cons r t ih=>rw[List.reverse_cons,List.reverse_cons];exact Vals.append ih (.cons r .nil)
def Vals.rep {xs:List V}(h:Vals xs us):∀ k:Nat,Vals (pc k xs).flatten (pc k us).flatten
 |0=>.nil
 |k+1=>by
  rw[replicate_succ,replicate_succ,flatten_cons,flatten_cons];exact Vals.append h (Vals.rep h k)
def foldl_rep (its:List Value):∀ (k:Nat) (acc:List Value),
  List.foldl (λx1 x2=>x1++x2) acc.toArray (pc k its.toArray)=(acc++(pc k its).flatten).toArray
 |0,acc=>by simp
 |k+1,acc=>by
  have e:acc.toArray++its.toArray=(acc++its).toArray:=by simp
  have e2:(acc++its)++(pc k its).flatten=acc++(pc (k+1) its).flatten:=by
   rw[replicate_succ,flatten_cons,im]
  rw[<-e2,<-foldl_rep its k (acc++its),<-e,replicate_succ,foldl_cons]
section
variable {X:Cx}{Y:AE}{U:St}{H:Hp}{s:Shared}{l b:Addr}{xs ys zs:List V}
def Inv.uK {its its':List Value}{f:Array Value->Array Value}{t':Nat}(I:Inv X Y U H s)(hH:H l=some (.lst xs))
  (e:s.heap.get? l=some { cls:=.type "list",data:=.seq its.toArray n }) (hf:f its.toArray=its'.toArray) (hv:Vals ys its') (hz:ys.length<=bm):
  Inv X Y U (upd H l (.lst ys)) { s with heap:=s.heap.update l (Obj.mapSeq f),toks:=t' }:=by
 have q:=PySem.IsL.update e f;rw[hf]at q;refine I.write (x:=l) (e:=l) (by rw[hH];exact trivial) (.inl rfl) (λb' u hb hu=>(Heap.get?_update_other s.heap (Obj.mapSeq f) (Ne.symm hb)).trans hu) ⟨_,q⟩ ?_;exact⟨hz,its',_,hv,q⟩
def Inv.wz {its:List Value}{t':Nat}(I:Inv X Y U H s)(hv:Vals ys its)(hz:ys.length<=bm):
  Inv X Y U (upd H s.heap.objs.size (.lst ys)) { s with heap:=s.heap.push { cls:=.type "list",data:=.seq its.toArray },toks:=t' }:=
 I.laid (λ_ _ q=>re _ q) (nl _) ⟨hz,its,0,hv,ss _ rfl⟩
def Inv.fresh (I:Inv X Y U H s):H s.heap.objs.size=none:=I.hok.fresh (nl _)
def Inv.jj (I:Inv X Y U H s)(hH:H l=some (.lst xs)):xs.length<=bm/\∃ (its:List Value) (n:Nat),Vals xs its/\xs.length=its.length/\s.heap.get? l=some { cls:=.type "list",data:=.seq its.toArray n }:=by
 obtain⟨z,its,n,r,e⟩:=I.hok l _ hH;exact⟨z,its,n,r,r.length,e⟩
def i9 (h:n<=bm):Builtin.List.listTooLong n=false:=by
 unfold Builtin.List.listTooLong;exact decide_eq_false nofun
end
section
variable {X:Cx}
abbrev rV:V->List V->Hp->VK->Prop:=λx vs H Q=>∃ l xs y,x=.ref l/\vs=[y]/\H l=some (.lst xs)/\xs.length<bm/\Q .non (upd H l (.lst (xs++[y])))
def dr:yF X "list.append" rV:=by
 intro Y s U H x vs v us Q I rx rv h;obtain⟨l,xs,y,rfl,rfl,hH,hz,q⟩:=h;cases rx;obtain⟨u,rfl,ru⟩:=rv.one;obtain⟨z,its,n,r,hl,e⟩:=I.jj hH;refine call_meets F.slot_list_append ⟨_,e,rfl⟩ F.entry_list_append (F.args_list_append_2 _ _) (PySem.list_append l its.toArray n u (by rw[f8];omega)) ⟨e,?_⟩;refine⟨.non,_,I.uK (its':=its++[u]) hH e (by simp) (r.append (.cons ru .nil)) ?_,rfl,q⟩;rw[ce,dL]
 omega
abbrev rm:V->List V->Hp->VK->Prop:=λx vs H Q=>∃ l b xs zs,x=.ref l/\vs=[.ref b]/\H l=some (.lst xs)/\H b=some (.lst zs)/\xs.length+zs.length<=bm/\Q .non (upd H l (.lst (xs++zs)))
def lO:yF X "list.extend" rm:=by
 intro Y s U H x vs v us Q I rx rv h;obtain⟨l,b,xs,zs,rfl,rfl,hH,hB,hz,q⟩:=h;cases rx;obtain⟨u,rfl,ru⟩:=rv.one;cases ru;obtain⟨z,its,n,r,hl,e⟩:=I.jj hH;obtain⟨z2,its2,n2,r2,hl2,e2⟩:=I.jj hB;have hsz:its.toArray.size+its2.toArray.size<=bm:=by rw[f8,f8];omega
 have hlong:¬ (!its.toArray.isEmpty&&Builtin.List.listTooLong (its.toArray.size+its2.toArray.size))=true:=by
  rw[i9 hsz,Bool.and_false];exact Bool.false_ne_true
 refine call_meets F.slot_list_extend ⟨_,e,rfl⟩ F.entry_list_extend (F.args_list_extend_2 _ _)
  (AutoSeq1.list_extend_list_list_0 l its.toArray n b its2.toArray n2 hlong (by rw[f8];omega) nofun) ⟨e,e2,?_⟩
 refine⟨.non,_,I.uK (its':=its++its2) hH e (by simp) (r.append r2) ?_,rfl,q⟩;rw[ce]
 omega
abbrev uR:V->List V->Hp->VK->Prop:=λx vs H Q=>∃ l xs,x=.ref l/\vs=[]/\H l=some (.lst xs)/\Q .non (upd H l (.lst []))
def mY:yF X "list.clear" uR:=by
 intro Y s U H x vs v us Q I rx rv h;obtain⟨l,xs,rfl,rfl,hH,q⟩:=h;cases rx;have hus:=rv.zero;subst hus;obtain⟨z,its,n,r,hl,e⟩:=I.jj hH;refine call_meets F.slot_list_clear ⟨_,e,rfl⟩ F.entry_list_clear (F.args_list_clear_1 _) (AutoSeq1.list_clear_list_0 l its.toArray n (by rw[f8];omega)) ⟨e,?_⟩;exact⟨.non,_,I.uK (its':=[]) (ys:=[]) hH e rfl .nil (Nat.zero_le _),rfl,q⟩
abbrev y9:R2:=λx y H Q=>∃ l b xs zs,x=.ref l/\y=.ref b/\H l=some (.lst xs)/\H b=some (.lst zs)/\xs.length+zs.length<=bm/\∀ p,H p=none->Q (.ref p) (upd H p (.lst (xs++zs)))
def uE:a4 X (binaryOp .Add) y9:=by
 intro Y s U H x y v u Q I rx ry h;obtain⟨l,b,xs,zs,rfl,rfl,hH,hB,hz,q⟩:=h;cases rx;cases ry;obtain⟨z,its,n,r,hl,e⟩:=I.jj hH;obtain⟨z2,its2,n2,r2,hl2,e2⟩:=I.jj hB;refine PySem.P.add_list e e2 ?_ (by rw[f8,f8];omega);have ea:its.toArray++its2.toArray=(its++its2).toArray:=by simp
 rw[ea];exact⟨.ref _,_,I.wz (t':=s.toks) (r.append r2) (by rw[ce];omega),rfl,q _ I.fresh⟩
abbrev yj:R2:=λx y H Q=>∃ l k xs,x=.ref l/\y=.int k/\H l=some (.lst xs)/\ -(2 ^ 63)<=k/\k<2 ^ 63/\xs.length*k.toNat<=bm/\
 ∀ p,H p=none->Q (.ref p) (upd H p (.lst (pc k.toNat xs).flatten))
def len_rep (xs:List α)(k:Nat):(pc k xs).flatten.length=k*xs.length:=by
 induction k with
 |zero=>simp
 |succ k ih=>rw[replicate_succ,flatten_cons,ce,ih,Nat.succ_mul,Nat.add_comm]
def vA:a4 X (binaryOp .Mult) yj:=by
 intro Y s U H x y v u Q I rx ry h;obtain⟨l,k,xs,rfl,rfl,hH,h1,h2,hz,q⟩:=h;cases rx;obtain⟨t,rfl⟩:=ry;obtain⟨z,its,n,r,hl,e⟩:=I.jj hH;have hlen:its.toArray.size*k.toNat<=bm:=by rw[f8,<-hl];exact hz
 have hcap:¬ its.toArray.size*k.toNat>(2 ^ 63-1) / 8:=by
  have:(bm:Nat)<=(2 ^ 63-1) / 8:=by decide
  omega
 have hfit:¬ (!Builtin.List.listFitsIndex k)=true:=by
  rw[fitsIndex_both h1 h2];exact Bool.false_ne_true
 have hlong:¬ Builtin.List.listTooLong (its.toArray.size*k.toNat)=true:=by
  rw[i9 hlen];exact Bool.false_ne_true
 have hnew:List.foldl (λx1 x2=>x1++x2) #[] (pc (if its.toArray.isEmpty=true then 0 else k.toNat) its.toArray)=(pc k.toNat its).flatten.toArray:=by
  have f0:∀ m:Nat,List.foldl (λx1 x2=>x1++x2) #[] (pc m its.toArray)=(pc m its).flatten.toArray:=λm=>by
   have:=foldl_rep its m [];rw[nil_append]at this;exact this
  rw[f0];cases its with
  |nil=>simp
  |cons a r'=>rw[if_neg (by simp)]
 refine wpAny_binaryOp_repeat_ref (T:="list") (U:="int") (by decide) ⟨_,e,rfl⟩ (λs'=>typeIs_int s' k t) noFill_list_mul F.fills_int_mul F.slot_int_rmul repeat_list F.slot_int_index.lookup
  (call_meets F.slot_int_rmul (typeIs_int s k t) F.entry_int_rmul (F.args_int_rmul_2 _ _) (int___rmul___int_list k t l its.toArray n)
   ⟨e,rfl,⟨_,e,rfl⟩,call_meets F.slot_list_mul ⟨_,e,rfl⟩ F.entry_list_mul (F.args_list_mul_2 _ _) (AutoListH.list___mul___list_int_3 l its.toArray n k t hfit hcap hlong) ⟨e,?_⟩⟩)
 rw[hnew];exact⟨.ref _,_,I.wz (t':=s.toks) (r.rep k.toNat) (by rw[len_rep,Nat.mul_comm];exact hz),rfl,q _ I.fresh⟩
end
section
variable {prog:Program}{w:World}{A:Around}{E:AD}{s:Shared}
set_option maxRecDepth 100000 in
end
section
variable {X:Cx}
end
variable {o:Option V}
section
variable {κ:Type} [DecidableEq κ]
abbrev dG (kvs:List (κ×V))(k:κ):Option V:=(kvs.find? λkv=>decide (kv.1=k)).map (·.2)
abbrev putK (kvs:List (κ×V))(k:κ)(v:V):List (κ×V):=
 if(kvs.any λkv=>decide (kv.1=k))=true then kvs.map (λkv=>if kv.1=k then(kv.1,v) else kv) else kvs++[(k,v)]
def d8 {p:κ×V}{r:List (κ×V)}{k:κ}(e:p.1=k):dG (p::r) k=some p.2:=by simp[dG,find?_cons,e]
def ff {p:κ×V}{r:List (κ×V)}{k:κ}(e:¬ p.1=k):dG (p::r) k=dG r k:=by simp[dG,find?_cons,e]
def iU (k:κ):∀ kvs:List (κ×V),(kvs.any λkv=>decide (kv.1=k))=(dG kvs k).isSome
 | []=>rfl
 |p::r=>by
  rw[any_cons]
  by_cases e:p.1=k
  .simp only[d8 e,decide_eq_true e,Bool.true_or,Option.isSome_some]
  .rw[ff e,decide_eq_false e,Bool.false_or];exact iU k r
def bJ (kvs:List (κ×V))(k:κ)(v:V):(putK kvs k v).length<=kvs.length+1:=by
 unfold putK
 split
 .rw[bv];omega
 .rw[ce,length_cons,length_nil];omega
def a8.lu {u:Option Value}(r:a8 o u):o.isSome=u.isSome:=by
 cases o with
 |none=>cases u with
  |none=>rfl
  |some _=>exact(show False from r).elim
 |some _=>cases u with
  |none=>exact(show False from r).elim
  |some _=>rfl
def KV.val {kvs:List (κ×V)}{vs:List (κ×Value)}(r:KV kvs vs)(k:κ):a8 (dG kvs k) (valueAt vs k):=by
 unfold KV at r
 induction r with
 |nil=>exact True.intro
 | @cons p q ps qs h t ih=>
  obtain⟨h1,h2⟩:=h
  by_cases e:p.1=k
  .have e':q.1=k:=h1.symm.trans e;have b:valueAt (q::qs) k=some q.2:=by simp[valueAt,find?_cons,e']
   rw[d8 e,b];exact h2
  .have e':¬ q.1=k:=λz=>e (h1.trans z)
   have b:valueAt (q::qs) k=valueAt qs k:=by simp[valueAt,find?_cons,e']
   rw[ff e,b];exact ih
def KV.any {kvs:List (κ×V)}{vs:List (κ×Value)}(r:KV kvs vs)(k:κ):(kvs.any λkv=>decide (kv.1=k))=vs.any λkv=>decide (kv.1=k):=by
 unfold KV at r
 induction r with
 |nil=>rfl
 |cons h t ih=>rw[any_cons,any_cons,ih,h.1]
def KV.vD {kvs:List (κ×V)}{vs:List (κ×Value)}(r:KV kvs vs)(k:κ)(ry:RelV y u):
  KV (kvs.map λkv=>if kv.1=k then(kv.1,y) else kv) (vs.map λkv=>if kv.1=k then(kv.1,u) else kv):=by
 unfold KV at r⊢
 induction r with
 |nil=>exact .nil
 | @cons p q ps qs h t ih=>
  rw[map_cons,map_cons];refine .cons ?_ ih;obtain⟨h1,h2⟩:=h
  by_cases e:p.1=k
  .rw[if_pos e,if_pos (h1.symm.trans e)];exact⟨h1,ry⟩
  .rw[if_neg e,if_neg (λz=>e (h1.trans z))];exact⟨h1,h2⟩
def KV.put {kvs:List (κ×V)}{vs:List (κ×Value)}(r:KV kvs vs)(k:κ)(ry:RelV y u):KV (putK kvs k y) (stored vs k u):=by
 unfold putK stored;rw[r.any k]
 by_cases e:(vs.any λkv=>decide (kv.1=k))=true
 .rw[if_pos e,if_pos e];exact r.vD k ry
 .rw[if_neg e,if_neg e];exact Paired.snoc r ⟨rfl,ry⟩
def KV.length {kvs:List (κ×V)}{vs:List (κ×Value)}(r:KV kvs vs):kvs.length=vs.length:=Paired.length r
end
variable {P:Program}{w:World}
def kL {k:Key}(r:RelV (kV k) u):(aq P w).is k u=true:=by
 cases k with
 |inl i=>obtain⟨t,e⟩:=(show ∃ t,u=Value.int i t from r);subst e;exact iJ P w i t
 |inr x=>obtain⟨t,e⟩:=(show ∃ t,u=Value.str x t from r);subst e;exact iL P w x t
def fO {P:Program}{w:World}:∀ {ks:List Key}{us:List Value},Vals (ks.map kV) us->ItemsAre (aq P w) ks us
 | [],_,r=>by rw[List.map_nil]at r;cases r;exact .nil
 |k::ks,_,r=>by
  rw[map_cons]at r;cases r with
  |cons h t=>exact .cons (kL h) (fO t)
@[reducible]def KT (H:Hp):List (List Key×V)->List (List Key×Addr×Value)->Prop:=Paired λp q=>p.1=q.1/\H q.2.1=some (.tup (p.1.map kV))/\RelV p.2 q.2.2
variable {xs:List (List Key×Addr×Value)}{kvs:List (List Key×V)}
def KT.val (r:KT H kvs xs)(k:List Key):a8 (dG kvs k) ((atKey xs k).map (·.2)):=by
 induction r with
 |nil=>exact True.intro
 | @cons p q ps qs h t ih=>
  obtain⟨h1,_,h2⟩:=h
  by_cases e:p.1=k
  .have e':q.1=k:=h1.symm.trans e;have b:atKey (q::qs) k=some q.2:=by simp[atKey,find?_cons,e']
   rw[d8 e,b];exact h2
  .have e':¬ q.1=k:=λz=>e (h1.trans z)
   have b:atKey (q::qs) k=atKey qs k:=by simp[atKey,find?_cons,e']
   rw[ff e,b];exact ih
def KT.vD (r:KT H kvs xs)(k:List Key)(ry:RelV y u):
  KT H (kvs.map λkv=>if kv.1=k then(kv.1,y) else kv) (xs.map (putAt k u)):=by
 induction r with
 |nil=>exact .nil
 | @cons p q ps qs h t ih=>
  rw[map_cons,map_cons];refine .cons ?_ ih;obtain⟨h1,h2,h3⟩:=h;unfold putAt
  by_cases e:p.1=k
  .rw[if_pos e,if_pos (h1.symm.trans e)];exact⟨h1,h2,ry⟩
  .rw[if_neg e,if_neg (λz=>e (h1.trans z))];exact⟨h1,h2,h3⟩
def KT.put (r:KT H kvs xs)(k:List Key){b:Addr}(hb:H b=some (.tup (k.map kV)))(ry:RelV y u):
  KT H (putK kvs k y) (storedH xs k b u):=by
 have e:(kvs.any λkv=>decide (kv.1=k))=(atKey xs k).isSome:=by
  rw[iU,(r.val k).lu,Option.isSome_map]
 unfold putK storedH;rw[e]
 by_cases q:(atKey xs k).isSome=true
 .rw[if_pos q,if_pos q];exact r.vD k ry
 .rw[if_neg q,if_neg q];exact Paired.snoc r ⟨rfl,hb,ry⟩
variable {H':Hp}
def KT.keeps (r:KT H kvs xs)(ht:∀ b ys,H b=some (.tup ys)->H' b=some (.tup ys)):KT H' kvs xs:=
 Paired.uI r λ_ _ z=>⟨z.1,ht _ _ z.2.1,z.2.2⟩
section
variable {P:Program}{w:World}{H:Hp}{h:Heap}{a:Addr}
def sL {u:HO}(ok:cu P w H h)(e:Rd H a u):ao P w H h a u:=e.ok ok
def gh {kvs:List (Key×V)}(ok:cu P w H h)(e:Rd H a (.dK kvs)):kvs.length<=bm/\(a ==sysModules)=false/\∃ vs,KV kvs vs/\h.DictOf (aq P w) a vs:=
 show ao P w H h a (.dK kvs) from sL ok e
def sP {kvs:List (Key×V)}(ok:cu P w H h)(e:H a=some (.dK kvs)):kvs.length<=bm/\(a ==sysModules)=false/\∃ vs,KV kvs vs/\h.DictOf (aq P w) a vs:=gh ok (.inl e)
def ji {ks:List Key}(ok:cu P w H h)(e:H a=some (.tup (ks.map kV))):(tupleKind (aq P w)).is h ks a:=by
 obtain⟨_,its,r,o,h1,h2,n,h3⟩:=(show ao P w H h a (.tup (ks.map kV)) from ok a _ e);exact⟨o,its.toArray,n,h1,h2,h3,by simpa using fO r⟩
def l8 (ok:cu P w H h)(e:Rd H a (.dT kvs)):kvs.length<=bm/\(a ==sysModules)=false/\
  ∃ xs,KT H kvs xs/\h.DictOfH (tupleKind (aq P w)) a xs:=by
 obtain⟨z,y,xs,r,o,es,ep,h1,h2,h3,h4,h5⟩:=(show ao P w H h a (.dT kvs) from sL ok e);refine⟨z,y,xs,r,o,es,ep,h1,h2,h3,h4,λx hx=>?_,h5⟩;have all:∀ {l:List (List Key×V)}{m:List (List Key×Addr×Value)},KT H l m->∀ x ∈ m,(tupleKind (aq P w)).is h x.1 x.2.1:=by
  intro l m q
  induction q with
  |nil=>intro x hx;exact nomatch hx
  | @cons p q ps qs hq t ih=>
   intro x hx;rcases le.mp hx with e|hx
   .subst e;exact ji ok (by rw[<-hq.1];exact hq.2.1)
   .exact ih x hx
 exact all r x hx
def we (ok:cu P w H h)(e:H a=some (.dT kvs)):kvs.length<=bm/\(a ==sysModules)=false/\
  ∃ xs,KT H kvs xs/\h.DictOfH (tupleKind (aq P w)) a xs:=l8 ok (.inl e)
end
abbrev uC (H:Hp)(a:Addr)(y:V)(r:Option V):Prop:=
 (∃ kvs k,Rd H a (.dK kvs)/\y=kV k/\r=dG kvs k)\/∃ kvs k b,Rd H a (.dT kvs)/\y=.ref b/\H b=some (.tup (k.map kV))/\r=dG kvs k
abbrev xf (H:Hp)(a:Addr)(y v:V)(H':Hp):Prop:=
 (∃ kvs k,H a=some (.dK kvs)/\y=kV k/\kvs.length<bm/\H'=upd H a (.dK (putK kvs k v)))\/
 ∃ kvs k b,H a=some (.dT kvs)/\y=.ref b/\H b=some (.tup (k.map kV))/\kvs.length<bm/\H'=upd H a (.dT (putK kvs k v))
section
variable {X:Cx}{Y:AE}{U:St}{H:Hp}{s:Shared}{a:Addr}{y v:V}{u r:Value}{o:Option V}{A:Around}{E:AD}
def Inv.big (I:Inv X Y U H s):sysModules<s.heap.objs.size:=by
 have h:mainGlobals<s.heap.objs.size:=(I.mod.glob.keeps I.bk).lt;exact Nat.lt_trans (by decide) h
def k7 {Q:AD}(hu:A.units+1<cLine)(I:Inv X Y U H s)(g:uC H a y (some v))(ry:RelV y u)(h:∀ w' s',Inv X Y U H s'->RelV v w'->Q w' s'):
  wpAny (model X.prog X.w) A (getItem (.ref a) u) Q E s:=by
 rcases g with⟨kvs,k,e,ey,l⟩|⟨kvs,k,b,e,ey,eb,l⟩
 .subst ey;obtain⟨z,hd,vs,rel,dd⟩:=gh I.hok e;obtain⟨w',hw,rw'⟩:=a8.some_of (v:=v) (o:=valueAt vs k) (by rw[l];exact rel.val k);exact wpAny_getItem_of (kL ry) dd.mapOf hw (h w' _ (I.tok _) rw')
 .subst ey;cases(show u=Value.ref b from ry);obtain⟨z,hd,xs,rel,dd⟩:=l8 I.hok e;obtain⟨w',hw,rw'⟩:=a8.some_of (v:=v) (o:=(atKey xs k).map (·.2)) (by rw[l];exact rel.val k);obtain⟨p,hp,hp2⟩:=li.mp hw;refine wpAny_getItem_heap (tupleKind_room_in1 hu) (ji I.hok eb) dd hp ?_;rw[hp2];exact h w' _ (I.tok _) rw'
def gw {h':Heap}{t':Nat}{ob:HO}(I:Inv X Y U H s)(mu:xA (H a))(hs:Heap.SameBut a s.heap h')(he:∃ q,h'.get? a=some q) (new:ao X.prog X.w (upd H a ob) h' a ob):
  Inv X Y U (upd H a ob) { s with heap:=h',toks:=t' }:=
 I.write (x:=a) (e:=a) mu (.inl rfl) (λb q hb z=>(hs.2 b hb).trans z) he new
def mV {h':Heap}{kvs:List (Key×V)}{vs:List (Key×Value)}(z:kvs.length<=bm)(hd:(a ==sysModules)=false)(rel:KV kvs vs)(dd:h'.DictOf (aq P w) a vs):
  ao P w H' h' a (.dK kvs):=⟨z,hd,vs,rel,dd⟩
def lW {Q:AB}(hu:A.units+1<cLine)(I:Inv X Y U H s)(g:xf H a y v H')(ry:RelV y u)(rv:RelV v r)(h:∀ s',Inv X Y U H' s'->Q () s'):
  wpAny (model X.prog X.w) A (setItem (.ref a) u r) Q E s:=by
 rcases g with⟨kvs,k,e,ey,l,eH⟩|⟨kvs,k,b,e,ey,eb,l,eH⟩
 .subst ey eH;obtain⟨z,hd,vs,rel,dd⟩:=sP I.hok e;have hz:vs.length<=bm:=by rw[<-rel.length];exact z
  have hl:(putK kvs k v).length<=bm:=by have:=bJ kvs k v;omega
  refine wpAny_setItem_pairs (hsz:=hz) (kL ry) dd λh' dd' hs=>h _ ?_
  have he:∃ q,h'.get? a=some q:=let⟨q,_,_,hq,_⟩:=dd';⟨q,hq⟩;exact gw I (by rw[e];exact True.intro) hs he (mV hl hd (rel.put k rv) dd')
 .subst ey eH;cases(show u=Value.ref b from ry);obtain⟨z,hd,xs,rel,dd⟩:=we I.hok e;have hz:xs.length<=bm:=by rw[<-Paired.length rel];exact z
  have hl:(putK kvs k v).length<=bm:=by have:=bJ kvs k v;omega
  refine wpAny_setItem_heap (hsz:=hz) (tupleKind_room_in1 hu) (ji I.hok eb) dd λh' dd' hs=>h _ ?_
  obtain⟨q,es,ep,hq,h2,h3,h4,_,h5⟩:=dd';refine gw I (by rw[e];exact True.intro) hs ⟨q,hq⟩ ⟨hl,hd,_,(rel.put k eb rv).keeps λc ys ec=>?_,q,es,ep,hq,h2,h3,h4,h5⟩;rw[ab (wt ec e (λz=>nomatch z))];exact ec
end
section
variable {X:Cx}{Y:AE}{U:St}{H:Hp}{s:Shared}{a:Addr}{kvs:List (Key×V)}{k:Key}{u:Value}{A:Around}{E:AD}
end
def ie {X:Cx}{a:Addr}(I:Inv X Y U H s)(g:uC H a y o):s.TypeIs (.ref a) "dict":=by
 rcases g with⟨kvs,k,e,_,_⟩|⟨kvs,k,b,e,_,_,_⟩
 .obtain⟨_,_,vs,_,dd⟩:=gh I.hok e;exact dd.typeIs
 .obtain⟨_,_,xs,_,dd⟩:=l8 I.hok e;exact dd.typeIs
section
variable {X:Cx}{o i e value:Expr}{pos pos' tpos:Pos}{td ty tv:TE}
end
def n8 (h:Heap)(hb:sysModules<h.objs.size):ao P w H (h.push { cls:=.type "dict",data:=.dict #[] }) h.objs.size (.dK []):=
 ⟨Nat.zero_le _,beq_eq_false_iff_ne.mpr (Ne.symm (nb hb)),[],.nil,Heap.DictOf.new h⟩
section
variable {X:Cx}{pos:Pos}
end
section
variable {X:Cx}{Y:AE}{U:St}{H:Hp}{s:Shared}{a:Addr}{y d:V}{u r:Value}{o:Option V}{A:Around}{E:AD}
end
section
variable {X:Cx}{o e f:Expr}{apos cpos:Pos}{td ty tx:TE}
end
section
variable {X:Cx}{Y:AE}{U:St}{H:Hp}{s:Shared}{a:Addr}{kvs:List (Key×V)}{A:Around}{E:AD}
end
section
variable {X:Cx}{Y:AE}{U:St}{H:Hp}{s:Shared}{a:Addr}{y:V}{u:Value}{A:Around}{E:AD}
end
end L2
namespace Att
open PySem PySem.W PySem.Calls PyProof.Rows
variable {P:Params}
def dH {h:Heap}:∀ (ns:List Int) (vs:List Value),WellAll P h vs (ns.map WData.int)->IntsAre vs ns:=by
 intro ns
 induction ns with
 |nil=>
  intro vs w;rw[List.map_nil]at w;cases w;exact .nil
 |cons n ns ih=>
  intro vs w;rw[map_cons]at w;cases w with
  |cons a b=>
   cases a;exact .cons _ _ (ih _ b)
variable {l:OpenLaw}
def lj {n:Nat}(hn:l.most=some n){h:Heap}{args:List WData}{vals:List Value}
  (hpre:l.row.toRowW.claim.pre args=true) (hwl:WellAll P h vals args):
  ∃ a vs ns,vals=[Value.ref a]/\args=[WData.list (ns.map WData.int)]/\h.get? a=some { cls:=.type "list",data:=.seq vs.toArray }/\IntsAre vs ns/\ns.length<=n:=by
 have hsh:WShape.hasAll [] args [.list .int]=true:=(pre_splitW hpre).1;have hc:l.pre.holds [] { args:=args }=true:=(pre_splitW hpre).2;obtain⟨d,r,rfl,h1,h2⟩:=hasAllW_cons hsh;obtain rfl:=hasAllW_nil h2;obtain⟨xs,rfl,h3⟩:=hasW_list h1;obtain⟨ns,rfl⟩:=items_int h3;have hlen:ns.length<=n:=by
  unfold OpenLaw.pre at hc;have h4:(WTm.not (.lt (.lit (.int (n:Int))) (.len (.arg 0)))).holds [] { args:=[.list (ns.map .int)] }=true:=by
   have h4:=(holds_andW hc).1;rw[hn]at h4;exact h4
  have h5:=condW_of h4 (w_not (w_lt w_lit (w_len_list (w_arg rfl))));rw[bv]at h5;refine Nat.le_of_not_lt λq=>?_
  have q':(n:Int)<((ns.length:Nat):Int):=by omega
  first
   |(rw[decide_eq_true q']at h5;exact absurd h5 (by decide))
   |(simp at h5;omega)
 cases hwl with
 |cons w1 w2=>
  cases w2;cases w1 with
  |list ho hall=>exact⟨_,_,ns,rfl,rfl,ho,dH ns _ hall,hlen⟩
def lI (l:OpenLaw)(args:List WData):l.row.toRowW.claim.post args (.bool true) args=true:=
 postW_of (r:=l.row.toRowW) (X:=(true ==true))
  (show WShape.has [] (.bool true) .bool=true by first|rfl|decide|simp[WShape.has,WShape.arms,WShape.armsAll])
  (show(WTm.eq .res (.lit (.bool true))).value [] { args:=args,res:=some (.bool true),after:=args }=some (.bool (true ==true)) from w_eq_bool (w_res rfl) w_lit) rfl
def jc {n:Nat}{q:Program}{loose:List Str}{XP:(Str->Option Value)->Heap->Prop}{YP:World->Heap->Prop}{d:DefRec}
  (hn:l.most=some n) (hdf:d.params.defaults=[])
  (call:∀ (w:World) (s₀ s₁:Shared) (mg mb:AF) (fa:Addr) (o:Obj) (pm cd doc:Value) (a:Addr) (vs:List Value) (ns:List Int),
   Ground q loose [] XP w s₀ mg mb s₁.heap->YP w s₁.heap->
   s₁.heap.get? fa=some o->o.data=.func (docDef d.name d.params d.body d.scope pm cd doc)->s₁.heap.CodeRec cd d.name->mg d.name=some (.ref fa)->
   s₁.heap.get? a=some { cls:=.type "list",data:=.seq vs.toArray }->IntsAre vs ns->ns.length<=n->s₁.gens=#[]->
   codeAny (model l.prog w) callerA (.call (.ref fa) ⟨[.ref a],[]⟩) (λr s'=>r=.ok (.ret (.bool true))/\OldK s₁.heap s'.heap/\s'.os=s₁.os/\AllBare s'.gens) s₁):
  WalkO q loose XP YP l.row.toRowW d [] (λf vs=>PySem.call f vs):=by
 intro w s₀ s₁ mg mb G Y fa o pm cd doc dV kV ho hd hcd hD hmg hg args vals as hpre hlay hrd hwl hlo;obtain rfl:dV=.none:=Dflts.none hD hdf;obtain rfl:kV=.none:=Dflts.noKw hD;obtain⟨a,vs,ns,rfl,rfl,hobj,hints,hlen⟩:=lj hn hpre hwl;refine enter_call (codeAny_mono (call w s₀ s₁ mg mb fa o pm cd doc a vs ns G Y ho (fd_plain hd) hcd hmg hobj hints hlen hg) λr s' hq=>?_);obtain⟨rfl,h2,h3,h4⟩:=hq;exact⟨.inl ⟨.bool true,.bool true,[],rfl,λ_=>rfl,.bool true,lI l _,λ_=>⟨List.Pairwise.nil,λ_ hm=>(nomatch hm)⟩⟩,h2,h3,h4⟩
section
variable {prog:Program}{w:World}{A:Around}{E:AD}{s:Shared}{K:Frag}
end
end Att
namespace L2
open PySem PySem.Spec PyProof.Rows
def gc:∀ {vs:List Value}{ns:List Int},IntsAre vs ns->Vals (ns.map V.int) vs
 |_,_,.nil=>.nil
 |_,_,.cons n t h=>.cons ⟨t,rfl⟩ (gc h)
abbrev uZ (H:Hp):Prop:=∀ b,H b=none\/∃ o xs,H b=some (.fq o (.lst xs))
def mW {P:Program}{w:World}{K:W.Frag}{mg mb:AF}{CX:kb}{k:Nat}{fa a:Addr}{fd:FuncData}{x:Str}{sp:Sp}{s₁:Shared}{vs:List Value}{ns:List Int}
  (KX:K.In s₁.heap) (hns:s₁.heap.Ns mainGlobals mg) (hb:s₁.heap.Ns builtinsNs mb) (hbb:∀ x:Str,x≠"__name__"->mb x=bootBuiltins x) (hlim:s₁.heap.NoLimit) (hg:s₁.gens=#[])
  (ha:s₁.heap.get? a=some { cls:=.type "list",data:=.seq vs.toArray }) (hi:IntsAre vs ns) (hl:ns.length<=bm) (hr:aG k callerA)
  (F:∀ base:Heap,K.In base->base.Ns mainGlobals mg->ba P w K mg base CX k fa fd [x] sp) (hbind:∀ (s:Shared) (u:Value),BindsTo s fd ⟨[u],[]⟩ [(x,u)])
  (hsp:∀ H:Hp,uZ H->ax K H a (ns.map V.int)->sp [.ref a] H (λv _=>v=.bl true) λ_ _=>False)
  (hCX:∀ H e s',CX [] H s₁ (λ_ _=>False) e s'->False):
  codeAny (model P w) callerA (.call (.ref fa) ⟨[.ref a],[]⟩) (λr s'=>r=.ok (.ret (.bool true))/\OldK s₁.heap s'.heap/\s'.os=s₁.os/\AllBare s'.gens) s₁:=by
 have rv:=gc hi;have lenV:=hi.length;have core:∀ H:Hp,uZ H->ax K H a (ns.map V.int)->cu P w H s₁.heap->(∀ b,H b≠none->b=a)->(H a≠none->K.lookup a=none)->
   codeAny (model P w) callerA (.call (.ref fa) ⟨[.ref a],[]⟩) (λr s'=>r=.ok (.ret (.bool true))/\OldK s₁.heap s'.heap/\s'.os=s₁.os/\AllBare s'.gens) s₁:=by
  intro H hO hS hok hA hK;have base_of:∀ {b:Addr}{o:Obj},s₁.heap.get? b=some o->H b=none->(g9 s₁.heap H).get? b=some o:=λe n=>nR e n
  have noA:∀ {b:Addr}{o:Obj}{es:Array DictEntry}{ep:Nat},s₁.heap.get? b=some o->o.data=.dict es ep->H b=none:=λ{b o es ep} e d=>by
   cases q:H b with
   |none=>rfl
   |some u=>
    have e':b=a:=hA b (by rw[q];simp);subst e';rw[ha]at e;cases e;have d':Data.seq vs.toArray _=Data.dict es ep:=d;cases d'
  have nsK:∀ {b:Addr}{m:AF},s₁.heap.Ns b m->(g9 s₁.heap H).Ns b m:=λ{b m} ⟨o,es,ep,e,d,r⟩=>⟨o,es,ep,base_of e (noA e d),d,r⟩
  have hKb:K.In (g9 s₁.heap H):=λb o e=>base_of (KX b o e) (by
   cases q:H b with
   |none=>rfl
   |some u=>
    have e':b=a:=hA b (by rw[q];simp);subst e';rw[hK (by rw[q];simp)]at e;cases e)
  have hM:Mod K mg (g9 s₁.heap H):=⟨hKb,nsK hns,⟨mb,nsK hb,hbb⟩,let⟨mc,h1,h2⟩:=hlim;⟨mc,nsK h1,h2⟩⟩;have e0:jt P w K mg (g9 s₁.heap H) callerA [] s₁ H:=⟨rfl,hM,λb o e=>qg e,Nat.le_of_eq (lp _ _),trivial,λb hb=>absurd (show b ∈ ([]:List Addr) from hb) (by simp),hok,.of_eq hg⟩;refine codeAny_mono ((F _ hKb (nsK hns)).run callerA [] s₁ H ⟨[.ref a],[]⟩ [.ref a] [.ref a] _ _ hr e0 (hbind s₁ (.ref a)) (.cons rfl .nil) (hsp H hO hS)) λr s' h=>?_
  cases r with
  |error e=>exact(hCX H e s' h).elim
  |ok fl=>
   cases fl with
   |next=>exact False.elim h
   |brk=>exact False.elim h
   |cont=>exact False.elim h
   |ret u=>
    obtain⟨v,H',os,bare,un,hok',r',q⟩:=h;have q':v=.bl true:=q;subst q';obtain rfl:u=Value.bool true:=r';refine⟨rfl,OldK.of_keep λb o e=>?_,os,bare⟩;cases q:H b with
    |none=>exact un.keep b o e q (by intro z;exact absurd (show b ∈ ([]:List Addr) from z) (by simp)) (by simp)
    |some u=>
     rcases hO b with z|⟨ob,xs,z⟩
     .rw[q]at z;cases z
     .have z2:=un.frzs b ob _ z;obtain⟨e1,_⟩:=hok b _ z;obtain⟨e2,_⟩:=hok' b _ z2;rw[e]at e1;cases e1;exact e2
 cases hk:K.lookup a with
 |some o=>
  have e:=KX a o hk;rw[ha]at e;cases e;refine core (λ_=>none) (λ_=>.inl rfl) (.inr ⟨_,vs.toArray,_,hk,rfl,rfl,rfl,by rw[f8,lenV];exact hl,by simpa using rv⟩) (λb u z=>by have z':(none:Option HO)=some u:=z;cases z') (λb z=>absurd rfl z) λz=>absurd rfl z
 |none=>
  refine core (λb=>if b=a then some (.fq { cls:=.type "list",data:=.seq vs.toArray } (.lst (ns.map V.int))) else none) (λb=>?_) (.inl (.inr ⟨{ cls:=.type "list",data:=.seq vs.toArray },if_pos rfl⟩)) (λb u z=>?_) (λb z=>?_) λ_=>hk
  .by_cases hb:b=a
   .exact .inr ⟨_,_,if_pos hb⟩
   .exact .inl (if_neg hb)
  .by_cases hb:b=a
   .have z':=(if_pos hb).symm.trans z;cases z';subst hb;exact⟨ha,by rw[bv];exact hl,vs,_,rv,ha⟩
   .have z':=(if_neg hb).symm.trans z;cases z'
  .by_cases hb:b=a
   .exact hb
   .exact absurd (if_neg hb) z
def rM {l:W.OpenLaw}{n k:Nat}{q:Program}{loose:List Str}{XP:(Str->Option Value)->Heap->Prop}{YP:World->Heap->Prop}{d:DefRec}{K:Params->W.Frag}{CX:World->kb}{sp:World->Sp}{x:Str}
  (hn:l.most=some n) (hn2:n<=bm) (hdf:d.params.defaults=[]) (hr:aG k callerA)
  (hY:∀ (w:World) (h:Heap),YP w h->(K w.params).In h)
  (F:∀ (w:World) (mg:AF) (fa:Addr) (h:Heap),(K w.params).In h->h.Ns mainGlobals mg->mg d.name=some (.ref fa)->
   ∃ fd:FuncData,(∀ (s:Shared) (u:Value),BindsTo s fd ⟨[u],[]⟩ [(x,u)])/\
    ∀ base:Heap,(K w.params).In base->base.Ns mainGlobals mg->ba l.prog w (K w.params) mg base (CX w) k fa fd [x] (sp w))
  (hsp:∀ (w:World) (H:Hp) (a:Addr) (ns:List Int),ns.length<=n->uZ H->ax (K w.params) H a (ns.map V.int)->sp w [.ref a] H (λv _=>v=.bl true) λ_ _=>False)
  (hCX:∀ (w:World) (H:Hp) (s:Shared) (e:Value) (s':Shared),CX w [] H s (λ_ _=>False) e s'->False):
  W.WalkO q loose XP YP l.row.toRowW d [] (λf vs=>PySem.call f vs):=by
 refine Att.jc hn hdf λw s₀ s₁ mg mb fa o pm cd doc a vs ns G Y ho hd hcd hmg hobj hints hlen hg=>?_
 have KX:=hY w _ Y;obtain⟨fd,hb,hF⟩:=F w mg fa _ KX G.T.g hmg;exact mW KX G.T.g G.T.b G.T.builtins G.T.nolimit hg hobj hints (Nat.le_trans hlen hn2) hr hF hb (λH hO hS=>hsp w H a ns hlen hO hS) λH e s'=>hCX w H s₁ e s'
section
variable {P:Program}{w:World}{K:W.Frag}{mg:AF}{base:Heap}
end
def bT {n:Nat}(h:n<=1000):n<bm:=Nat.lt_of_le_of_lt h (by decide)
section
variable {X:Cx}
end
end L2
namespace L2
open PySem PySem.Spec PySem.W PyProof.Rows PySem.Builtin PySem.Builtin.ObjectAttr
variable {rs:List Addr}
section
variable {prog:Program}{w:World}{A:Around}{E:AD}{s:Shared}{K:W.Frag}{x C:Addr}{ox od:Obj}{name:Str}{expr:Bool}{v:Value}{Q:AD}
def iq:builtinKind "BaseException.__getattribute__"=some .slot:=by decide+kernel
def fY:splitId "BaseException.__getattribute__"=some ("BaseException","__getattribute__"):=by decide+kernel
def rY (X:K.In s.heap)(I:W.InstAt s.heap x ox C (some od))(hga:W.findIn K (.ref C) "__getattribute__"=some (some (.builtin "BaseException.__getattribute__"))) (hgn:W.findIn K (.ref C) "__getattr__"=some none)
  (hb:W.mroIn K C (.type "BaseException")=some true) (hf:W.findObj K C (some od) name=some (.value v)) (hh:W.handedIn v=true) (h:Q v { s with toks:=s.toks+1 }):
  wpAny (model prog w) A (getAttr (.ref x) name expr) Q E s:=by
 obtain⟨hp,g,d,t,os⟩:=s;have L0:=I.type (M:=model prog w);have L1:=looks_findIn (M:=model prog w) X hga;have L2':=looks_findIn (M:=model prog w) X hgn;have L3:=looks_find (M:=model prog w) X I hf;have L4:Looks (model prog w) hp (isInstance (.ref x) (.type "BaseException")) true:=I.type.andThen (looks_mroIn X hb);unfold getAttr getAttrBy;refine ad (wpAny_mkText (bd (ad (L0.at (ad (L1.at ?_))))));have e1:(Value.builtin "BaseException.__getattribute__" ==Value.builtin "object.__getattribute__")=false:=by decide+kernel
 dsimp only;rw[e1,Bool.and_false];show wpAny _ _ (getAttrByItsOwn _ _ _ _ _ _) _ _ _;unfold getAttrByItsOwn hookBefore;refine ad (L2'.at ?_);refine ad (wpAny_attempt (bd ?_));have e2:(expr&&onTheHeap (Value.builtin "BaseException.__getattribute__"))=false:=by cases expr<;>rfl
 unfold callGetattribute;rw[e2];show wpAny _ _ (boundAndCalled _ _ _) _ _ _;unfold boundAndCalled;rw[PySem.F.attr_ValueError.ga.bind];refine ad (am (wpAny_call (codeAny_call_builtin PySem.F.attr_ValueError.ga.plain PySem.F.entry_bexc_ga ?_)));refine @check_slot (model prog w) _ _ _ "BaseException.__getattribute__" "BaseException" "__getattribute__" (.ref x) [.str name t] [] _ iq fY L4 (PySem.F.args_bexc_ga (.ref x) (.str name t)) ?_;unfold Builtin.«object.__getattribute__»;refine ad (am (ad (am (ad (L0.at (ad (L3.at ?_)))))));refine am ?_;show wpAny _ _ (handedOut v) _ _ _;rw[handedOut_of hh];exact am h
abbrev nX:Value->Bool
 | .ref _=>true
 |_=>false
abbrev aH:List Value:=[.type "ValueError",.type "Exception",.type "BaseException",.type "object"]
abbrev bc (l:List Value):Bool:=l.dropWhile nX ==aH
def bg:∀ {l:List Value},bc l=true->∃ rs:List Addr,l=rs.map Value.ref++aH
 | [],e=>by cases e
 |c::r,e=>by
  by_cases h:nX c=true
  .have e':bc r=true:=by
    unfold bc at e⊢;rw[List.dropWhile_cons_of_pos h]at e;exact e
   obtain⟨rs,q⟩:=bg e';cases c with
   |ref a=>exact⟨a::rs,by rw[q];rfl⟩
   |_=>cases h
  .unfold bc at e;rw[List.dropWhile_cons_of_neg h]at e;exact⟨[],beq_iff_eq.mp e⟩
def eO (self:Value):∀ rs:List Addr,refuseLoop self "__setattr__" (rs.map Value.ref++aH)=pure ()
 | []=>PySem.F.store_ValueError.passes self
 |a::r=>by rw[map_cons,List.cons_append,refuseLoop_ref];exact eO self r
structure aU (K:W.Frag) (C:Addr):Prop where
 mt:W.typeIn K (.ref C)=some (.type "type")
 ov:(W.clsIn K C).any (λcd=>bc cd.mro)=true
 hd:W.hasDictIn K C=true
 ga:W.findIn K (.ref C) "__getattribute__"=some (some (.builtin "BaseException.__getattribute__"))
 gn:W.findIn K (.ref C) "__getattr__"=some none
 sa:W.findIn K (.ref C) "__setattr__"=some (some (.builtin "object.__setattr__"))
def aU.mro (c:aU K C):∃ (cd:ClassData) (rs:List Addr),W.clsIn K C=some cd/\cd.mro=rs.map Value.ref++aH:=by
 obtain⟨cd,h1,h2⟩:=W.any_some c.ov;obtain⟨rs,h3⟩:=bg h2;exact⟨cd,rs,h1,h3⟩
def iX (h:aH.contains v=true):(rs.map Value.ref++aH).contains v=true:=by
 rw[List.contains_eq_mem,decide_eq_true_eq]at h⊢;exact ge _ h
def kI:(rs.map Value.ref++aH).isEmpty=false:=by cases rs<;>rfl
def aU.sub (c:aU K C)(h:aH.contains v=true):W.mroIn K C v=some true:=by
 obtain⟨cd,rs,h1,h2⟩:=c.mro;unfold W.mroIn;rw[h1,Option.bind_some,h2,if_neg (by rw[kI];decide),iX h]
variable {R:Result->Shared->Prop}
def iD {tk:Tok}{odo:Option Obj}(X:K.In s.heap)(I:W.InstAt s.heap x ox C odo)(c:aU K C)(ht:W.findIn K (.ref C) name=some none)
  (h:wpAny (model prog w) A.in1 (storeInOwnDict (.ref x) (.ref C) (.str name tk) name v false)
   (λfin s'=>match fin with| .done f=>R (.ok f) s'| .again c'=>c'.quiet=true/\codeAny (model prog w) A c' R s') (λe s'=>R (.error e) s') s):
  codeAny (model prog w) A (.call (.builtin "object.__setattr__") ⟨[.ref x,.str name tk,v],[]⟩) R s:=by
 have SF:=PySem.F.store_object;obtain⟨cd,rs,hc,hm⟩:=c.mro;have sub:Looks (model prog w) s.heap (isInstance (.ref x) (.type "object")) true:=I.type.andThen (looks_mroIn X (c.sub (by decide+kernel)));refine codeAny_call_builtin SF.slot.plain SF.entry (@check_slot (model prog w) _ _ s "object.__setattr__" "object" "__setattr__" (.ref x) [.str name tk,v] [] _ SF.kind SF.split sub (SF.args (.ref x) (.str name tk) v) ?_);have hl:Looks (model prog w) s.heap (mroOf (.ref C)) cd.mro:=(looks_clsIn X hc).andThen .now;rw[osa_eq,refuse_eq];refine ad (ad (I.type.here (ad (hl.here ?_))));rw[hm,eO];refine am (ad (I.type.here (ad ((looks_findIn X ht).here (ad (am ?_))))));exact h
end
variable {Q:AD}{u:Value}
section
variable {X:Cx}{Y:AE}{U:St}{H:Hp}{s:Shared}{a C dx:Addr}{fs:List (Str×V)}{f:Str}{v:V}{A:Around}{E:AD}{fr:Bool}
def fW {b:Bool}(I:Inv X Y U H s)(e:H a=some (.exc C (some dx) fs fr))(c:aU X.K C)(n:bO X.K C f)(l:fs.lookup f=some v)
  (h:∀ u s',Inv X Y U H s'->RelV v u->Q u s'):wpAny (model X.prog X.w) A (getAttr (.ref a) f b) Q E s:=by
 obtain⟨⟨vs,ho,_⟩,z⟩:=I.hok a _ e;rcases z with⟨z,_⟩|⟨d,ed,_,_,_,mA,hn,r,_⟩
 .cases z
 cases ed;obtain⟨u,hu,ru⟩:=a8.some_of (v:=v) (o:=mA f) (by rw[<-l];exact r f);obtain⟨od,hod,hl⟩:=dn hn;refine rY (ox:={ cls:=.ref C,dict:=some dx,data:=.fields vs }) (od:=od) I.aJ ⟨ho,rfl,rfl,hod⟩ c.ga c.gn (c.sub (by decide+kernel)) (W.findObj_own c.hd n rfl (by rw[hl,hu])) (fT ru) (h u _ (I.tok _) ru)
def eh {y:V}{Q:AB}(I:Inv X Y U H s)(e:H a=some (.exc C (some dx) fs fr))(c:aU X.K C)(n:bO X.K C f)(hl:fs.length<1000)(ry:RelV y u)
  (h:∀ s',Inv X Y U (upd H a (.exc C (some dx) (a3 f y fs) fr)) s'->Q () s'):wpAny (model X.prog X.w) A (setAttr (.ref a) f u) Q E s:=by
 obtain⟨⟨vs,ho,zz⟩,z⟩:=id (I.hok a _ e);rcases z with⟨z,_⟩|⟨d,ed,hown,_,hne,mA,hn,r,wi⟩
 .cases z
 cases ed;obtain⟨od,hod,hlk⟩:=dn hn;have hz:(fs.map (·.1)).length<=bm:=by rw[bv,sizeLine_eq];omega
 have J:W.InstAt s.heap a { cls:=.ref C,dict:=some dx,data:=.fields vs } C (some od):=⟨ho,rfl,rfl,hod⟩;refine W.set_plain I.aJ J c.sa (iD (s:={ s with toks:=s.toks+1 }) I.aJ J c n ?_);obtain⟨cd,hc,hd'⟩:=W.any_some c.hd;refine ad (am (ad (ad (wpAny_loadPart ho (ad (W.Looks.here (s:={ s with toks:=s.toks+1 }) (W.looks_clsIn I.aJ hc) ?_))))));rw[hd'];refine am (a:=some dx) (ad (am (ad ?_)));refine wpAny_nsSet1 (s:={ s with toks:=s.toks+1 }) hn λh' hn2 hs2=>?_
 obtain⟨oD,esD,epD,hoD,hdD,hcD⟩:=hn2.count (PySem.Within.cons f u wi);refine ad (wpAny_lookBehind hoD (by rw[hdD];exact pastItsLine_dict (Nat.le_trans hcD (by rw[length_cons];omega))) ?_);refine am (h _ ?_);refine I.write (x:=a) (e:=dx) (by rw[e];exact True.intro) (.inr hown) (λb q hb z=>(hs2.2 b hb).trans z) ⟨oD,hoD⟩ ?_;refine⟨⟨vs,(hs2.2 _ (Ne.symm hne)).trans ho,zz⟩,.inr ⟨dx,rfl,by rw[ab hne];exact hown,?_,hne,_,hn2,λg=>?_,λg hg=>?_⟩⟩
 .have:=bE f y fs;omega
 .show a8 ((a3 f y fs).lookup g) (if g=f then some u else mA g);rw[bQ]
  by_cases q:g=f
  .rw[if_pos q,if_pos q];exact ry
  .rw[if_neg q,if_neg q];exact r g
 .by_cases q:g=f
  .rw[q];exact(a6 f y fs).1
  .refine(a6 f y fs).2 g (wi g λz=>hg ?_);show(if g=f then some u else mA g)=none;rw[if_neg q];exact z
def eP {y:V}{Q:AB}(I:Inv X Y U H s)(e:H a=some (.exc C none fs fr))(c:aU X.K C)(n:bO X.K C f)(ry:RelV y u)
  (h:∀ d s',H d=none->Inv X Y U (upd (upd H d (.own a)) a (.exc C (some d) [(f,y)] fr)) s'->Q () s'):wpAny (model X.prog X.w) A (setAttr (.ref a) f u) Q E s:=by
 obtain⟨⟨vs,ho,zz⟩,z⟩:=id (I.hok a _ e);have hfs:fs=[]:=by
  rcases z with⟨_,z⟩|⟨d,ed,_⟩
  .exact z
  .cases ed
 subst hfs;have J:W.InstAt s.heap a { cls:=.ref C,dict:=none,data:=.fields vs } C none:=⟨ho,rfl,rfl,True.intro⟩;refine W.set_plain I.aJ J c.sa (iD (s:={ s with toks:=s.toks+1 }) I.aJ J c n ?_);obtain⟨cd,hc,hd'⟩:=W.any_some c.hd;refine ad (am (ad (ad (wpAny_loadPart ho (ad (W.Looks.here (s:={ s with toks:=s.toks+1 }) (W.looks_clsIn I.aJ hc) ?_))))));rw[hd'];have hlt:=sn ho;have hxs:a≠s.heap.objs.size:=nb hlt;have ho1:(s.heap.push { cls:=.type "dict",data:=.dict #[] }).get? a=some { cls:=.ref C,dict:=none,data:=.fields vs }:=re _ ho;refine ad (wpAny_alloc' ?_);refine ad (wpAny_update' ho1 ?_);refine am ?_;have hgd:((s.heap.push { cls:=.type "dict",data:=.dict #[] }).update a λo=>{ o with dict:=some s.heap.objs.size }).get? s.heap.objs.size=some { cls:=.type "dict",data:=.dict #[] }:=
  (Heap.get?_update_ne _ _ _ _ hxs.symm).trans (Heap.get?_push_at rfl rfl)
 have hga:((s.heap.push { cls:=.type "dict",data:=.dict #[] }).update a λo=>{ o with dict:=some s.heap.objs.size }).get? a=some { cls:=.ref C,dict:=some s.heap.objs.size,data:=.fields vs }:=
  Heap.get?_update_self _ ho1 rfl
 have hnd:((s.heap.push { cls:=.type "dict",data:=.dict #[] }).update a λo=>{ o with dict:=some s.heap.objs.size }).Ns s.heap.objs.size (λ_=>none):=
  ⟨_,#[],_,hgd,rfl,λe he=>absurd he (by simp),λ_=>rfl⟩
 show wpAny _ _ (storeInDict s.heap.objs.size (.str f _) f u) _ _ _;unfold storeInDict newKeyGuard;refine ad (am (ad (wpAny_nsSet1 (Heap.Ns1.of_empty hnd) λh' hn2 hs2=>?_)));obtain⟨oD,esD,epD,hoD,hdD,hcD⟩:=hn2.count (PySem.Within.cons f u PySem.Within.nil);refine ad (wpAny_lookBehind hoD (by rw[hdD];exact pastItsLine_dict (Nat.le_trans hcD (by rw[length_cons,length_nil,sizeLine_eq];omega))) ?_);have hd0:H s.heap.objs.size=none:=I.hok.fresh (nl _);refine am (h s.heap.objs.size _ hd0 ?_);have e':upd H s.heap.objs.size (.own a) a=some (.exc C none [] fr):=by rw[ab hxs];exact e
 have I1:Inv X Y U (upd H s.heap.objs.size (.own a)) { s with heap:=s.heap.push { cls:=.type "dict",data:=.dict #[] },toks:=s.toks+1 }:=
  I.laid (a:=s.heap.objs.size) (o:=.own a) (t':=s.toks+1) (λb u q=>re _ q) (nl _) ⟨_,ss s.heap rfl⟩
 have I2:=I1.write (x:=a) (e:=a) (o:=.exc C (some s.heap.objs.size) [] fr) (t':=s.toks+1) (h':=(s.heap.push { cls:=.type "dict",data:=.dict #[] }).update a λo=>{ o with dict:=some s.heap.objs.size })
  (by rw[e'];exact True.intro) (.inl rfl) (λb q hb z=>(Heap.get?_update_ne _ _ _ _ hb).trans z) ⟨_,hga⟩
  ⟨⟨vs,hga,zz⟩,.inr ⟨_,rfl,by rw[ab hxs.symm,ag],Nat.zero_le _,hxs.symm,_,Heap.Ns1.of_empty hnd,λ_=>True.intro,λy hy=>absurd rfl hy⟩⟩
 have ga':h'.get? a=some { cls:=.ref C,dict:=some s.heap.objs.size,data:=.fields vs }:=(hs2.2 a hxs).trans hga;have I3:=I2.write (x:=a) (e:=s.heap.objs.size) (o:=.exc C (some s.heap.objs.size) [(f,y)] fr) (t':=s.toks+1+1) (h':=h') (by rw[ag];exact True.intro) (.inr (by rw[ab hxs.symm,ag]))
  (λb q hb z=>(hs2.2 b hb).trans z) ⟨oD,hoD⟩
  ⟨⟨vs,ga',zz⟩,.inr ⟨_,rfl,by rw[ab hxs.symm,ab hxs.symm,ag],by show 1<=1000;decide,hxs.symm,_,hn2,λg=>?_,λg hg=>?_⟩⟩
 .rw[qD]at I3;exact I3
 .show a8 (List.lookup g [(f,y)]) (if g=f then some u else none)
  by_cases q:g=f
  .have hb:(g ==f)=true:=beq_iff_eq.mpr q;simp only[List.lookup,hb,if_pos q];exact ry
  .have hb:(g ==f)=false:=beq_eq_false_iff_ne.mpr q;simp only[List.lookup,hb,if_neg q];exact True.intro
 .by_cases q:g=f
  .rw[q];simp
  .exact absurd (show(if g=f then some u else none)=none by rw[if_neg q]) hg
end
section
variable {X:Cx}{Y:AE}{U:St}{H:Hp}{s:Shared}{a C:Addr}{dx:Option Addr}{fs:List (Str×V)}{f:Str}{v:V}{A:Around}{E:AD}{fr:Bool}
def Inv.fields {vs':Array Value}{h':Heap}{t':Nat}(I:Inv X Y U H s)(e:H a=some (.exc C dx fs fr))(hs:vs'.size=6)(h1:fr=true->vs'[1]? =some Value.none)
  (ha:h'.get? a=some { cls:=.ref C,dict:=dx,data:=.fields vs' }) (k:∀ b u,b≠a->s.heap.get? b=some u->h'.get? b=some u):Inv X Y U H { s with heap:=h',toks:=t' }:=by
 have I2:=I.write (x:=a) (e:=a) (o:=.exc C dx fs fr) (t':=t') (h':=h') (by rw[e];exact True.intro) (.inl rfl) k ⟨_,ha⟩ ?_
 .have:upd H a (.exc C dx fs fr)=H:=by
   funext b
   by_cases hb:b=a
   .rw[hb,ag,e]
   .rw[ab hb]
  rw[this]at I2;exact I2
 .obtain⟨_,z⟩:=id (I.hok a _ e);refine⟨⟨vs',ha,hs,h1⟩,?_⟩;rcases z with z|⟨d,ed,d1,z1,ne,mA,⟨od,es,ep,e2,c⟩,r⟩
  .exact .inl z
  .exact .inr ⟨d,ed,by rw[ab ne];exact d1,z1,ne,mA,⟨od,es,ep,k _ _ ne e2,c⟩,r⟩
def fg {R:Result->Shared->Prop}(I:Inv X Y U H s)(e:H a=some (.exc C dx fs fr))(c:aU X.K C)
  (h:∀ s',Inv X Y U H s'->R (.ok (.ret .none)) s'):codeAny (model X.prog X.w) A (.call (.builtin "ValueError.__init__") ⟨[.ref a,u],[]⟩) R s:=by
 have F:=PySem.F.excCall_ValueError;obtain⟨⟨vs,ho,hsz,h1⟩,z⟩:=id (I.hok a _ e);have L4:Looks (model X.prog X.w) s.heap (isInstance (.ref a) (.type "ValueError")) true:=(show Looks (model X.prog X.w) s.heap (typeOf (.ref a)) (.ref C) from(Looks.ld ho).andThen .now).andThen (looks_mroIn I.aJ (c.sub (by decide+kernel)));refine codeAny_call_builtin F.init.plain F.initEntry ?_;simp only[checkBuiltinCall,F.initKind,F.initSplit,F.initRow];refine ad (L4.here ?_);simp only[Bool.not_true,Bool.false_eq_true,if_false];have hshort:("ValueError" != "*")=true:=by decide
 have h0:∃ a0,vs[0]? =some a0:=⟨_,Array.getElem?_eq_getElem nofun⟩;obtain⟨a0,h0⟩:=h0;obtain⟨hp,g,d,t,os⟩:=s;unfold Bind.checkArgs;have hn:Looks (model X.prog X.w) hp (typeOf (.ref a)) (.ref C):=(Looks.ld ho).andThen .now;obtain⟨cd,rs,hcl,_⟩:=c.mro;obtain⟨oc,od,sl,hC⟩:∃ oc od sl,hp.get? C=some ⟨oc,od,.cls cd,sl⟩:=by
  unfold W.clsIn at hcl
  split at hcl
  .rename_i ho';cases hcl;exact⟨_,_,_,I.aJ _ _ ho'⟩
  .cases hcl
 repeat(first|with_reducible refine wpAny_load hC ?_|wp_step)
 rw[h0];have ho1:(hp.push { cls:=.type "tuple",data:=.seq #[u] }).get? a=some { cls:=.ref C,dict:=dx,data:=.fields vs }:=re _ ho;have hq:=Heap.get?_update_self (Obj.mapFields (·.setIfInBounds 0 (.ref hp.objs.size))) ho1 (Obj.isFreed_of_fields (Obj.data_mapFields rfl _));have fin:R (.ok (.ret Value.none)) ⟨(hp.push { cls:=.type "tuple",data:=.seq #[u] }).update a (Obj.mapFields (·.setIfInBounds 0 (.ref hp.objs.size))),g,d,t,os⟩:=by
  refine h _ (I.fields (vs':=vs.setIfInBounds 0 (.ref hp.objs.size)) (t':=t) e (by simpa using hsz) (λz=>?_) hq λb q hb z'=>?_)
  .rw[Array.getElem?_setIfInBounds_ne (by decide)];exact h1 z
  .exact(Heap.get?_update_ne _ _ _ _ hb).trans (re _ z')
 refine am (ad (wpAny_setField ho1 rfl nofun ?_));cases a0<;>first|exact am (am fin)|exact wpAny_letGo (am fin)
def jH (I:Inv X Y U H s)(e:H a=some (.exc C dx fs fr))(c:aU X.K C)
  (h:∀ s',Inv X Y U H s'->Q .none s'):wpAny (model X.prog X.w) A (call (.builtin "ValueError.__init__") [.ref a,u]) Q E s:=wpAny_call (fg I e c h)
end
abbrev aL (K:W.Frag)(C:Addr):Bool:=match K.lookup C with
 |some ⟨_,_,.cls cd,sl⟩=>!cd.abstract&& !cd.hasDel&&(sl.toList[4]?).join ==some (.builtin "ValueError.__new__")&&bc cd.mro&&cd.mro.contains (.ref C)&&
   W.specialIn K (.ref C) "__call__" ==some (some (.builtin "type.__call__"))&&W.instIn K (.ref C) (.type "type") ==some true
 |_=>false
structure m9 (M:Model) (h:Heap) (C:Addr):Prop where
 obj:∃ oc od cd sl,h.get? C=some ⟨oc,od,.cls cd,sl⟩/\cd.abstract=false/\cd.hasDel=false/\cd.mro.isEmpty=false
 made:W.Looks M h (Bind.madeBy (.ref C)) (some "ValueError.__new__")
 base:W.Looks M h (Bind.staticBase (.ref C)) (.ref C)
 self:W.Looks M h (isSubtype (.ref C) (.ref C)) true
 top:W.Looks M h (isSubtype (.ref C) (.type "ValueError")) true
 no1:W.Looks M h (isSubtype (.ref C) (.type "AttributeError")) false
 no2:W.Looks M h (isSubtype (.ref C) (.type "NameError")) false
 call:W.Looks M h (specialOf (.ref C) "__call__") (some (.builtin "type.__call__"))
 typ:W.Looks M h (isInstance (.ref C) (.type "type")) true
def km {n:String}(h:aH.contains (.type n)=false):(rs.map Value.ref++aH).contains (.type n)=false:=by
 induction rs with
 |nil=>exact h
 |cons a r ih=>rw[map_cons,List.cons_append,List.contains_cons,ih];rfl
def f9 {K:W.Frag}{M:Model}{h:Heap}(X:K.In h){C:Addr}(e:aL K C=true):m9 M h C:=by
 unfold aL at e
 split at e
 .rename_i oc od cd sl ho;simp only[lf,Bool.not_eq_true',beq_iff_eq]at e;obtain⟨⟨⟨⟨⟨⟨e1,e2⟩,e3⟩,e4⟩,e5⟩,e7⟩,e8⟩:=e;obtain⟨rs,em⟩:=bg e4;have hc:W.clsIn K C=some cd:=by unfold W.clsIn;rw[ho]
  have hm:Looks M h (mroOf (.ref C)) cd.mro:=(looks_clsIn X hc).andThen .now;have ne:cd.mro.isEmpty=false:=by rw[em];exact kI
  obtain⟨c,l,hl⟩:∃ c l,cd.mro=c::l:=by
   cases q:cd.mro with
   |nil=>rw[q]at ne;cases ne
   |cons c l=>exact⟨c,l,rfl⟩
  have made:Looks M h (Bind.madeBy (.ref C)) (some "ValueError.__new__"):=by
   intro A Q E s k q;unfold Bind.madeBy;refine ad (hm A _ E s k ?_);rw[hl,forIn_cons];refine ad (ad (ad (ad (wpAny_loadPart (k _ _ (X _ _ ho)) (am ?_)))));dsimp only;rw[<-Array.getElem?_toList,e3];exact am (am (am q))
  have mro:∀ {v b},cd.mro.contains v=b->W.mroIn K C v=some b:=λ{v b} q=>by
   unfold W.mroIn;rw[hc,Option.bind_some,if_neg (by rw[ne];decide),q]
  refine⟨⟨oc,od,cd,sl,X _ _ ho,e1,e2,ne⟩,made,?_,looks_mroIn X (mro e5),looks_mroIn X (mro (by rw[em];exact iX (by decide+kernel))),looks_mroIn X (mro (by rw[em];exact km (by decide+kernel))),looks_mroIn X (mro (by rw[em];exact km (by decide+kernel))),looks_specialIn X e7,looks_instIn X e8⟩;intro A Q E s k q;unfold Bind.staticBase;refine ad (hm A _ E s k ?_);rw[hl,forIn_cons];exact ad (ad (ad (made A _ E s k (am (am (am q))))))
 .cases e
variable {rest:List Value}
section
variable {prog:Program}{w:World}{A:Around}{K:W.Frag}{C:Addr}{R:Result->Shared->Prop}{h:Heap}{g:Array GenState}{d:Drawn}{t:Nat}{os:OsState}
def sQ (Y:m9 (model prog w) h C)(hz:rest.length<=bm)
  (hq:R (.ok (.ret (.ref (h.objs.size+1)))) ⟨(h.push { cls:=.type "tuple",data:=.seq rest.toArray }).push { cls:=.ref C,data:=.fields #[.ref h.objs.size,.none,.none,.none,.bool false,.none] },g,d,t,os⟩):
  codeAny (model prog w) A (.call (.builtin "ValueError.__new__") ⟨.ref C::rest,[]⟩) R ⟨h,g,d,t,os⟩:=by
 obtain⟨⟨oc,od,cd,sl,hC,e1,e2,e4⟩,made,base,self,top,no1,no2,call,typ⟩:=Y;have F:=PySem.F.excBase_ValueError;have here:Looks (model prog w) h (Bind.madeHere "BaseException.__new__" (.ref C)) ():=base.andThen (made.andThen (Looks.of_pure (by simp only[Option.map_some,F.canon,bne_self_eq_false,Bool.false_eq_true,if_false])));refine codeAny_call_builtin_code (Code.quiet_builtin _ F.quiet) ?_;simp only[checkBuiltinCall,F.newKind,F.newSplit,F.newRow]
 repeat(first|simp only[bne_self_eq_false,Bool.false_eq_true,if_false]|lk)
 refine codeAny_builtinAt F.entry ?_;unfold Builtin.«BaseException.__new__»;refine PySem.wpAt_bind ?_;show PySem.wpAt _ _ _ (stack >>= _) _ _ _;refine PySem.wpAt_bind (PySem.wpAt_stack λp below=>PySem.wpAt_of_wpAny ?_);have hends:=F.ends
 wp_walk
 refine PySem.wpAt_of_wpAny ?_;rw[F.owner]
 repeat(first|simp only[Bool.not_true,Bool.false_eq_true,if_false]|lk)
 rw[if_neg (show ¬ (rest.toArray.size>bm) by rw[f8];omega)];unfold newObjAsIs;refine ad (wpAny_alloc (am (ad ?_)));show wpAny _ _ (newObjAsIs _ _ _) _ _ _;unfold newObjAsIs classHasDel;refine ad (wpAny_alloc (ad (ad (wpAny_load (re _ (re _ hC)) (am ?_)))));rw[e2];refine am (am ?_);show R _ _;rw[Heap.size_push];exact hq
def vN {fI:Addr}(X:K.In h)(hz:rest.length<=bm)(hm:aL K C=true)(hi:W.findIn K (.ref C) "__init__"=some (some (.ref fI))) (hf:W.typeIn K (.ref fI)=some (.type "function"))
  (hq:codeAny (model prog w) (A.under (.builtin "type.__call__" ⟨.ref C::rest,[]⟩)) (.call (.ref fI) ⟨.ref (h.objs.size+1)::rest,[]⟩) (InitBack (h.objs.size+1) R)
   ⟨(h.push { cls:=.type "tuple",data:=.seq rest.toArray }).push { cls:=.ref C,data:=.fields #[.ref h.objs.size,.none,.none,.none,.bool false,.none] },g,d,t,os⟩):
  codeAny (model prog w) A (.call (.ref C) ⟨rest,[]⟩) R ⟨h,g,d,t,os⟩:=by
 have Y:=f9 (M:=model prog w) X hm;have Y':=Y;obtain⟨⟨oc,od,cd,sl,hC,e1,e2,e4⟩,made,base,self,top,no1,no2,call,typ⟩:=Y;refine codeAny_of_tree ?_;show wpAny _ _ (callAny (.ref C) _) _ _ _;refine nd_load hC ?_;show wpAny _ _ (callAny.viaDunder (.ref C) _) _ _ _;unfold callAny.viaDunder;refine ad (call.at ?_);dsimp only;rw[tc_bind];refine ad (am (ad (am ?_)));refine am (a:=Fin.again (.call (.builtin "type.__call__") ⟨.ref C::rest,[]⟩)) (And.intro rfl ?_);refine codeAny_call_builtin_at (Code.quiet_builtin _ (by decide+kernel)) entry_typeCall (check_slot tc_kind tc_split typ (tc_args _ _ _) ?_);unfold Builtin.«type.__call__»;have hmr:Looks (model prog w) h (mroOf (.ref C)) cd.mro:=((Looks.ld (part:=none) hC).andThen .now).andThen .now
 repeat(first|simp only[e4,Bool.false_eq_true,if_false]|with_reducible refine wpAny_call ?_|lk)
 refine sQ Y' hz ?_;have k:∀ b o,h.get? b=some o->((h.push { cls:=.type "tuple",data:=.seq rest.toArray }).push { cls:=.ref C,data:=.fields #[.ref h.objs.size,.none,.none,.none,.bool false,.none] }).get? b=some o:=λb o e=>re _ (re _ e)
 have hx:((h.push { cls:=.type "tuple",data:=.seq rest.toArray }).push { cls:=.ref C,data:=.fields #[.ref h.objs.size,.none,.none,.none,.bool false,.none] }).get? (h.objs.size+1)=some { cls:=.ref C,data:=.fields #[.ref h.objs.size,.none,.none,.none,.bool false,.none] }:=by heap_get
 have t1:Looks (model prog w) ((h.push { cls:=.type "tuple",data:=.seq rest.toArray }).push { cls:=.ref C,data:=.fields #[.ref h.objs.size,.none,.none,.none,.bool false,.none] }) (typeOf (.ref (h.objs.size+1))) (.ref C):=(Looks.ld hx).andThen .now;have s1:=self.keeps k;have i1:=(looks_findIn (M:=model prog w) X hi).keeps k;have b1:=(bind_fn (M:=model prog w) X (.ref (h.objs.size+1)) hf).keeps k;unfold isInstance callSpecial? specialOf
 repeat(first|with_reducible refine wpAny_call ?_|lk)
 refine codeAny_mono hq λr s' z=>?_
 rcases r with e|(v|_|_|_)<;>first|exact z|exact z.elim|skip
 obtain⟨rfl,z⟩:=z;exact am (am z)
def pV (X:K.In h)(hz:rest.length<=bm)(hm:aL K C=true)(hi:W.findIn K (.ref C) "__init__"=some (some (.builtin "ValueError.__init__")))
  (hq:codeAny (model prog w) (A.under (.builtin "type.__call__" ⟨.ref C::rest,[]⟩)) (.call (.builtin "ValueError.__init__") ⟨.ref (h.objs.size+1)::rest,[]⟩) (InitBack (h.objs.size+1) R)
   ⟨(h.push { cls:=.type "tuple",data:=.seq rest.toArray }).push { cls:=.ref C,data:=.fields #[.ref h.objs.size,.none,.none,.none,.bool false,.none] },g,d,t,os⟩):
  codeAny (model prog w) A (.call (.ref C) ⟨rest,[]⟩) R ⟨h,g,d,t,os⟩:=by
 have Y:=f9 (M:=model prog w) X hm;have Y':=Y;obtain⟨⟨oc,od,cd,sl,hC,e1,e2,e4⟩,made,base,self,top,no1,no2,call,typ⟩:=Y;refine codeAny_of_tree ?_;show wpAny _ _ (callAny (.ref C) _) _ _ _;refine nd_load hC ?_;show wpAny _ _ (callAny.viaDunder (.ref C) _) _ _ _;unfold callAny.viaDunder;refine ad (call.at ?_);dsimp only;rw[tc_bind];refine ad (am (ad (am ?_)));refine am (a:=Fin.again (.call (.builtin "type.__call__") ⟨.ref C::rest,[]⟩)) (And.intro rfl ?_);refine codeAny_call_builtin_at (Code.quiet_builtin _ (by decide+kernel)) entry_typeCall (check_slot tc_kind tc_split typ (tc_args _ _ _) ?_);unfold Builtin.«type.__call__»;have hmr:Looks (model prog w) h (mroOf (.ref C)) cd.mro:=((Looks.ld (part:=none) hC).andThen .now).andThen .now
 repeat(first|simp only[e4,Bool.false_eq_true,if_false]|with_reducible refine wpAny_call ?_|lk)
 refine sQ Y' hz ?_;have k:∀ b o,h.get? b=some o->((h.push { cls:=.type "tuple",data:=.seq rest.toArray }).push { cls:=.ref C,data:=.fields #[.ref h.objs.size,.none,.none,.none,.bool false,.none] }).get? b=some o:=λb o e=>re _ (re _ e)
 have hx:((h.push { cls:=.type "tuple",data:=.seq rest.toArray }).push { cls:=.ref C,data:=.fields #[.ref h.objs.size,.none,.none,.none,.bool false,.none] }).get? (h.objs.size+1)=some { cls:=.ref C,data:=.fields #[.ref h.objs.size,.none,.none,.none,.bool false,.none] }:=by heap_get
 have t1:Looks (model prog w) ((h.push { cls:=.type "tuple",data:=.seq rest.toArray }).push { cls:=.ref C,data:=.fields #[.ref h.objs.size,.none,.none,.none,.bool false,.none] }) (typeOf (.ref (h.objs.size+1))) (.ref C):=(Looks.ld hx).andThen .now;have s1:=self.keeps k;have i1:=(looks_findIn (M:=model prog w) X hi).keeps k;have b1:Looks (model prog w) ((h.push { cls:=.type "tuple",data:=.seq rest.toArray }).push { cls:=.ref C,data:=.fields #[.ref h.objs.size,.none,.none,.none,.bool false,.none] }) (bindSpecial (.builtin "ValueError.__init__") (.ref (h.objs.size+1))) (.builtin "ValueError.__init__",[.ref (h.objs.size+1)]):=Looks.of_pure (PySem.F.excCall_ValueError.init.bind _);unfold isInstance callSpecial? specialOf
 repeat(first|with_reducible refine wpAny_call ?_|lk)
 refine codeAny_mono hq λr s' z=>?_
 rcases r with e|(v|_|_|_)<;>first|exact z|exact z.elim|skip
 obtain⟨rfl,z⟩:=z;exact am (am z)
end
end L2
namespace L2
open PySem PySem.Spec PySem.W PyProof.Rows
abbrev aB (e:Addr)(h h':Heap):Prop:=∀ oe vs,h.get? e=some oe->oe.data=.fields vs->∃ vs',h'.get? e=some { oe with data:=.fields vs' }/\vs'.size=vs.size
abbrev vG (as:List Addr)(h h':Heap):Prop:=∀ b o,b ∉ as->h.get? b=some o->h'.get? b=some o
abbrev rW (h:Heap)(e T:Addr)(fl:Value):Prop:=∃ oe vs oT ts,h.get? e=some oe/\oe.data=.fields vs/\vs[1]? =some (.ref T)/\T≠e/\h.get? T=some oT/\oT.data=.fields ts/\ts[3]? =some fl
def aB.trans {e:Addr}{h h1 h2:Heap}(a:aB e h h1)(b:aB e h1 h2):aB e h h2:=λoe vs x y=>by
 obtain⟨vs1,x1,z1⟩:=a oe vs x y;obtain⟨vs2,x2,z2⟩:=b _ vs1 x1 rfl;exact⟨vs2,x2,z2.trans z1⟩
def aB.same {e:Addr}{h h':Heap}(k:h'.get? e=h.get? e):aB e h h':=λoe vs x y=>⟨vs,by rw[k,x,<-y],rfl⟩
variable {Q:AB}
section
variable {M:Model}{A:Around}{E:AD}{s:Shared}{base:Heap}{env:Env}{outer:List Env}{L e:Addr}
def gg {oe:Obj}{vs:Array Value}{head:Value}{hadNext:Bool}(hfr:A.frames=some (env::outer))(hl:s.heap.FunFrames base (env::outer))(hf:env.frame=some L)
  (he:s.heap.get? e=some oe) (hd:oe.data=.fields vs) (hsz:1<vs.size)
  (q:∀ h' T,s.heap.objs.size<=T->rW h' e T (rawInt L)->aB e s.heap h'->(∀ b o,b≠e->s.heap.get? b=some o->∃ sl,h'.get? b=some { o with slots:=sl })->vG (e::gv (env::outer)) s.heap h'->Q () { s with heap:=h' }):
  wpAny M A (do let a <-frameOf env;let pl <-entryPlaceOf L hadNext;let b <-EntryCells.newEntry head a .none (rawInt L) .none pl;setField (.ref e) 1 b) Q E s:=by
 have hne:e ∉ gv (env::outer):=λhm=>by
  obtain⟨_,o,ho,hnf⟩:=hl.mem hm;rw[he]at ho;cases ho;exact hnf vs hd
 refine ad (wpAny_frameOf_fun hfr hl hf λh1 s1=>ad (wpAny_entryPlaceOf λpl hpl=>?_));unfold EntryCells.newEntry newFields;refine ad (wpAny_newObj_type ?_ (hpl.sizeOk5 _ _ _ _ _));have e1:h1.get? e=some oe:=(s1.2.1 e hne).trans he;have e2:=re (h:=h1) { cls:=.type "traceback",dict:=none,data:=.fields ([head,.ref L,.none,rawInt L,.none]++(if pl.isEmpty then pc 6 Value.none else pl)).toArray } e1;have hTe:h1.objs.size≠e:=Nat.ne_of_gt (sn e1);have d3:=Obj.data_mapFields hd (·.setIfInBounds 1 (Value.ref h1.objs.size));have e3:=Heap.get?_update_self (Obj.mapFields (·.setIfInBounds 1 (Value.ref h1.objs.size))) e2 (Obj.isFreed_of_fields d3);have t3:=(Heap.get?_update_other (h1.push { cls:=.type "traceback",dict:=none,data:=.fields ([head,.ref L,.none,rawInt L,.none]++(if pl.isEmpty then pc 6 Value.none else pl)).toArray })
  (Obj.mapFields (·.setIfInBounds 1 (Value.ref h1.objs.size))) (Ne.symm hTe)).trans (ss h1 rfl)
 have keep:∀ b o,b≠e->h1.get? b=some o->((h1.push { cls:=.type "traceback",dict:=none,data:=.fields ([head,.ref L,.none,rawInt L,.none]++(if pl.isEmpty then pc 6 Value.none else pl)).toArray }).update e (Obj.mapFields (·.setIfInBounds 1 (Value.ref h1.objs.size)))).get? b=some o:=
  λb o hb hq=>(Heap.get?_update_other _ _ (Ne.symm hb)).trans (re _ hq)
 refine wpAny_setField e2 hd hsz (q _ h1.objs.size ?_ ?_ ?_ (λb o hb ho=>?_) λb o hb ho=>?_)
 .rw[s1.1];exact nl _
 .refine⟨_,_,_,_,e3,d3,by simp[hsz],hTe,t3,rfl,?_⟩
  first|(simp;done)|(rcases hpl with rfl|⟨_,_,_,_,_,_,_,rfl⟩<;>simp)
 .intro oe' vs' x y;rw[he]at x;cases x;rw[hd]at y;cases y;refine⟨vs.setIfInBounds 1 (.ref h1.objs.size),?_,by simp⟩;rw[e3];obtain⟨c0,d0,dt,sl0⟩:=oe;cases hd
  rfl
 .obtain⟨sl,z⟩:=s1.2.2 b o ho;exact⟨sl,keep b _ hb z⟩
 .exact keep b o (λz=>hb (by rw[z];exact jp)) ((s1.2.1 b λz=>hb (db _ z)).trans ho)
abbrev ve (n₀:Nat)(ps:AE)(H:Hp)(h:Heap)(e:Addr):Prop:=(∃ oe vs,h.get? e=some oe/\oe.data=.fields vs/\vs[1]? =some Value.none)\/∃ T,n₀<=T/\H T=none/\(∀ p ∈ ps,p.1≠T)/\rW h e T .none
def qc {n₀:Nat}{ps:AE}{H:Hp}(hfr:A.frames=some (env::outer))(hl:s.heap.FunFrames base (env::outer))(hf:env.frame=some L)(sf:ve n₀ ps H s.heap e)(h0:n₀<=s.heap.objs.size)(hps:∀ p ∈ ps,p.1<s.heap.objs.size)
  (q:∀ h' T T0,s.heap.objs.size<=T->n₀<=T0->(H T0=none\/s.heap.objs.size<=T0)->(∀ p ∈ ps,p.1≠T0)->(∀ o,s.heap.get? T0=some o->∃ ts,o.data=.fields ts)->rW h' e T (rawInt L)->aB e s.heap h'->h'.FunFrames base (env::outer)->(∀ b o,b≠e->b≠T0->s.heap.get? b=some o->∃ sl,h'.get? b=some { o with slots:=sl })->vG (e::T0::gv (env::outer)) s.heap h'->(∀ b o,s.heap.get? b=some o->∃ o',h'.get? b=some o')->Q () { s with heap:=h' }):
  wpAny M A (noteFrame (.ref e) env) Q E s:=by
 have fun_of:∀ {h':Heap}{as:List Addr},(∀ b ∈ as,∀ o,s.heap.get? b=some o->∃ vs,o.data=.fields vs)->(∀ b o,b ∉ as->s.heap.get? b=some o->∃ sl,h'.get? b=some { o with slots:=sl })->h'.FunFrames base (env::outer):=
  λ{h' as} ha k=>hl.of_keeps λb o ho hnf=>by
   by_cases hb:b ∈ as
   .obtain⟨vs,z⟩:=ha b hb o ho;exact absurd z (hnf vs)
   .obtain⟨sl,z⟩:=k b o hb ho;exact⟨_,z,rfl⟩
 unfold noteFrame;simp only[hf];rcases sf with⟨oe,vs,he,hd,h1⟩|⟨T0,hT0,hH0,hp0,oe,vs,oT,ts,he,hd,h1,hTe,hT,hdT,h3⟩
 .skip
  refine ad (ap he hd h1 ?_);rw[if_neg (by decide)];refine gg hfr hl hf he hd (Array.getElem?_eq_some_iff.mp h1).1 λh' T hT st fo sl sy=>?_
  refine q h' T s.heap.objs.size hT h0 (.inr (nl _)) (λp hp=>nb (hps p hp)) (λo z=>absurd (sn z) (Nat.lt_irrefl _)) st fo ?_ (λb o hb _ ho=>sl b o hb ho) (λb o hb ho=>sy b o (λz=>hb ?_) ho) λb o ho=>?_
  .refine fun_of (as:=[e]) (λb hb o ho=>?_) λb o hb ho=>sl b o (by simpa using hb) ho
   obtain rfl:b=e:=by simpa using hb
   rw[he]at ho;cases ho;exact⟨vs,hd⟩
  .rcases le.mp z with z|z
   .exact le.mpr (.inl z)
   .exact db _ (db _ z)
  .by_cases hb:b=e
   .subst hb;rw[he]at ho;cases ho;obtain⟨vs',z,_⟩:=fo _ _ he hd;exact⟨_,z⟩
   .obtain⟨sl',z⟩:=sl b o hb ho;exact⟨_,z⟩
 .refine ad (ap he hd h1 ?_);rw[if_pos (show(Value.ref T0 != Value.none)=true from by simp)];refine ad (ap hT hdT h3 ?_);rw[if_neg (show ¬ ((Value.none ==rawInt L)=true) from by simp[rawInt])];refine ad (wpAny_setField hT hdT (Array.getElem?_eq_some_iff.mp h3).1 ?_);have other:∀ b,b≠T0->(s.heap.update T0 (Obj.mapFields (·.setIfInBounds 3 Value.none))).get? b=s.heap.get? b:=λb hb=>Heap.get?_update_other _ _ (Ne.symm hb)
  have self':=Heap.get?_update_self (Obj.mapFields (·.setIfInBounds 3 Value.none)) hT (Obj.isFreed_of_fields (Obj.data_mapFields hdT _));have rec':∀ b o,s.heap.get? b=some o->(∀ vs,o.data≠.fields vs)->b≠T0:=λb o hb hnf z=>by
   rw[z,hT]at hb;cases hb;exact hnf ts hdT
  refine gg (base:=base) hfr (hl.of_keeps λb o hb hnf=>⟨o,(other b (rec' b o hb hnf)).trans hb,rfl⟩) hf ((other e (Ne.symm hTe)).trans he) hd (Array.getElem?_eq_some_iff.mp h1).1 λh' T hTn st fo sl sy=>?_
  have hTn':s.heap.objs.size<=T:=by
   have z:(s.heap.update T0 (Obj.mapFields (·.setIfInBounds 3 Value.none))).objs.size<=T:=hTn
   rwa [Heap.size_after_update]at z
  refine q h' T T0 hTn' hT0 (.inl hH0) hp0 (λo z=>by rw[hT]at z;cases z;exact⟨ts,hdT⟩) st (aB.trans (aB.same (other e (Ne.symm hTe))) fo) ?_ (λb o hb hb0 ho=>sl b o hb ((other b hb0).trans ho)) (λb o hb ho=>?_) λb o ho=>?_
  .refine fun_of (as:=[e,T0]) (λb hb o ho=>?_) λb o hb ho=>sl b o (λz=>hb (by simp[z])) ((other b λz=>hb (by simp[z])).trans ho)
   rcases le.mp hb with hb|hb
   .subst hb;rw[he]at ho;cases ho;exact⟨vs,hd⟩
   .obtain rfl:b=T0:=by simpa using hb
    rw[hT]at ho;cases ho;exact⟨ts,hdT⟩
  .have n1:b≠e:=λz=>hb (by simp[z])
   have n2:b≠T0:=λz=>hb (by simp[z])
   refine sy b o (λz=>hb ?_) ((other b n2).trans ho);rcases le.mp z with z|z
   .exact le.mpr (.inl z)
   .exact db _ (db _ z)
  .by_cases hb:b=e
   .subst hb;obtain⟨vs',z,_⟩:=fo _ _ ((other b (Ne.symm hTe)).trans he) hd;exact⟨_,z⟩
   .by_cases hb0:b=T0
    .subst hb0;obtain⟨sl',z⟩:=sl b _ hb self';exact⟨_,z⟩
    .obtain⟨sl',z⟩:=sl b o hb ((other b hb0).trans ho);exact⟨_,z⟩
def kn {T:Addr}{fl:Value}(st:rW s.heap e T fl)
  (q:∀ h',rW h' e T .none->(∀ b,b≠T->h'.get? b=s.heap.get? b)->(∃ o,s.heap.get? T=some o)->(∃ o,h'.get? T=some o)->(∃ oT ts,h'.get? T=some oT/\oT.data=.fields ts)->Q () { s with heap:=h' }):wpAny M A (setFlight (.ref e) none) Q E s:=by
 obtain⟨oe,vs,oT,ts,he,hd,h1,hTe,hT,hdT,h3⟩:=st;have hz:3<ts.size:=(Array.getElem?_eq_some_iff.mp h3).1;have other:∀ b,b≠T->(s.heap.update T (Obj.mapFields (·.setIfInBounds 3 ((none:Option Addr).elim Value.none λf=>rawInt f)))).get? b=s.heap.get? b:=λb hb=>Heap.get?_update_other _ _ (Ne.symm hb)
 have self':=Heap.get?_update_self (Obj.mapFields (·.setIfInBounds 3 ((none:Option Addr).elim Value.none λf=>rawInt f))) hT (Obj.isFreed_of_fields (Obj.data_mapFields hdT _));unfold setFlight;refine ad (ap he hd h1 ?_);rw[if_pos (show(Value.ref T != Value.none)=true from by simp)];refine wpAny_setField hT hdT hz (q _ ⟨oe,vs,_,_,(other e (Ne.symm hTe)).trans he,hd,h1,hTe,self',Obj.data_mapFields hdT _,by simp[hz]⟩ other ⟨_,hT⟩ ⟨_,self'⟩ ⟨_,_,self',Obj.data_mapFields hdT _⟩)
end
variable {A:Around}
section
variable {X:Cx}{U:St}{H:Hp}{s:Shared}{e C:Addr}{dx:Option Addr}{fs:List (Str×V)}{h':Heap}
def Inv.nU {Y:AE}(I:Inv X Y U H s):Inv X [] U H s:=I.gK λ_ z=>absurd z (by simp)
def Inv.xJ {T0:Addr}{as:List Addr}(I:Inv X [] U H s)(hpn:∀ p ∈ X.pn,p.1≠T0) (he:H e=some (.exc C dx fs false)) (has:as=gv X.stack)
  (hT:X.s₀.heap.objs.size<=T0) (hT0:H T0=none\/s.heap.objs.size<=T0) (hTd:∀ o,s.heap.get? T0=some o->∃ ts,o.data=.fields ts)
  (fo:aB e s.heap h') (sl:∀ b o,b≠e->b≠T0->s.heap.get? b=some o->∃ sl,h'.get? b=some { o with slots:=sl }) (sy:vG (e::T0::as) s.heap h') (th:∀ b o,s.heap.get? b=some o->∃ o',h'.get? b=some o'):
  Inv X [] U H { s with heap:=h' }:=by
 subst has;obtain⟨⟨vs,ho,hsz,_⟩,z⟩:=id (I.hok e _ he);have hH0:H T0=none:=by
  rcases hT0 with z|z
  .exact z
  .exact I.hok.fresh z
 have nT:∀ {b:Addr}{o:Obj},s.heap.get? b=some o->(∀ vs,o.data≠.fields vs)->b≠T0:=λ{b o} hb hn z=>by
  subst z;obtain⟨ts,q⟩:=hTd _ hb;exact hn ts q
 have cJ:∀ b o,H b=none->b≠T0->b ∉ gv X.stack->s.heap.get? b=some o->h'.get? b=some o:=λb o hb h0 hf hq=>sy b o (λm=>by
  rcases le.mp m with m|m
  .rw[m,he]at hb;cases hb
  .rcases le.mp m with m|m
   .exact h0 m
   .exact hf m) hq
 have su:∀ a u,H a=some u->a≠e->∀ o,s.heap.get? a=some o->h'.get? a=some o:=λa u ha ne o hq=>sy a o (λm=>by
  rcases le.mp m with m|m
  .exact ne m
  .rcases le.mp m with m|m
   .rw[m,hH0]at ha;cases ha
   .rw[I.gI a m]at ha;cases ha) hq
 refine I.step (g':=s.gens) (t':=s.toks) (d':=s.drawn) (ch:=[T0]) (h':=h') (λb hb=>?_) (λb o hL hfs hch hq hn=>?_) (λb o hL hfs hch hq hn=>?_) (λb o _ _ hn=>hn) (λb o _ hq=>th b o hq) (λ_ _ q=>q) (λ_ _ _ q=>q) (λb ps q=>⟨#[],by rw[q];simp⟩) (λm hm=>?_) (λa u ha=>?_) I.bare
 .obtain rfl:b=T0:=by simpa using hb
  refine⟨.inr hT,?_,λx c hc z=>?_,λp hp=>hpn p (by simpa using hp)⟩
  .obtain⟨m,⟨o,es,ep,ho',hd,_⟩,_⟩:=I.loc;intro z;exact nT ho' (λvs q=>by rw[hd]at q;cases q) z.symm
  .obtain⟨v,o,ho',hd⟩:=I.cell x c hc;exact nT ho' (λvs q=>by rw[hd]at q;cases q) z
 .refine cJ b o hn (by simpa using hch) (λm=>?_) hq;rcases le.mp (I.c4 b m) with z|z
  .exact hL z
  .exact hfs z
 .exact sl b o (λz=>by rw[z,he]at hn;cases hn) (by simpa using hch) hq
 .obtain⟨o,es,ep,ho',hd,r⟩:=hm;have n1:X.env.locals≠e:=λz=>by have:=I.free;rw[z,he]at this;cases this
  obtain⟨sl',q⟩:=sl _ o n1 (nT ho' λvs q=>by rw[hd]at q;cases q) ho';exact⟨_,es,ep,q,hd,r⟩
 .by_cases hae:a=e
  .subst hae;rw[he]at ha;cases ha;obtain⟨vs',q,hz⟩:=fo _ vs ho rfl;refine⟨⟨vs',q,hz.trans hsz,λy=>by cases y⟩,?_⟩;rcases z with z|⟨d,ed,d1,z1,ne,mA,⟨od,es,ep,e2,c⟩,r⟩
   .exact .inl z
   .exact .inr ⟨d,ed,d1,z1,ne,mA,⟨od,es,ep,su d _ d1 ne _ e2,c⟩,r⟩
  .refine(I.hok a u ha).cJ (λb o hb hq=>?_) (λ_ q=>q) λ_ _ q=>q
   rcases hb with hb|hb
   .subst hb;exact su b u ha hae o hq
   .refine su b _ hb (λz=>?_) o hq;rw[z,he]at hb;cases hb
abbrev nK (P:Program)(w:World):kb:=λouter H s E u s'=>∃ (e:Addr) (H':Hp) (C:Addr) (dx:Option Addr) (fs:List (Str×V)) (T:Addr),u=.ref e/\s'.os=s.os/\AllBare s'.gens/\Un (gv outer) [] H H' s.heap s'.heap/\cu P w H' s'.heap/\
 H' e=some (.exc C dx fs false)/\s.heap.objs.size<=T/\H' T=none/\rW s'.heap e T .none/\E e H'
abbrev yd (X:Cx)(E:St->XK):Prop:=∀ (U:St) (H:Hp) (s:Shared) (e C:Addr) (dx:Option Addr) (fs:List (Str×V)),Inv X [] U H s->ve X.s₀.heap.objs.size X.pn H s.heap e->H e=some (.exc C dx fs false)->E U e H->X.xe (.ref e) s
def k8 {E:St->XK}(x:yd X E):Passes (nK X.prog X.w) X E:=by
 intro Y U H s u s' I h;obtain⟨e,H',C,dx,fs,T,rfl,os,bare,un,hok,he,hT,hT0,st,q⟩:=h;have J:Inv X [] U H' s':=Inv.pq (ch:=[]) I.nU os un hok bare (λb z=>absurd z (by simp));exact x U H' s' e C dx fs J (.inr ⟨T,Nat.le_trans I.sz hT,hT0,λp hp=>nb (lw (sn (I.pin p (mem_append_left _ hp)).1) hT),st⟩) he q
def lM {M:Model}{E E':AD}{Q:Shared->Prop}(I:Inv X [] U H s)(hs:X.stack=X.env::X.outer)(hf:X.env.frame=some X.env.locals)(sf:ve X.s₀.heap.objs.size X.pn H s.heap e)(he:H e=some (.exc C dx fs false))
  (q:∀ s' T,Inv X [] U H s'->s'.os=s.os->X.s₀.heap.objs.size<=T->H T=none->(∀ p ∈ X.pn,p.1≠T)->rW s'.heap e T .none->Q s'):
  wpAny M X.A (noteFrame (.ref e) X.env) (λ_ s1=>wpAny M X.A (setFlight (.ref e) none) (λ_ s2=>Q s2) E s1) E' s:=by
 have hl:s.heap.FunFrames X.base (X.env::X.outer):=hs▸I.stack;refine qc (by rw[<-hs];exact I.ok.frames) hl hf sf I.sz (λp hp=>sn (I.pin p (mem_append_left _ hp)).1) λh1 T T0 hT hT0 hH0 hp0 hTd st fo fF sl sy th=>?_
 have I1:=I.xJ (T0:=T0) (as:=gv (X.env::X.outer)) (h':=h1) hp0 he (by rw[hs]) hT0 hH0 hTd fo sl sy th;have hHT:H T=none:=I.hok.fresh hT;have hpT:∀ p ∈ X.pn,p.1≠T:=λp hp=>nb (lw (sn (I.pin p (mem_append_left _ hp)).1) hT)
 refine kn (s:={ s with heap:=h1 }) st λh2 kg oth _ th2 rec2=>?_
 have I2:Inv X [] U H { s with heap:=h2 }:=by
  refine Inv.turned (s:={ s with heap:=h1 }) (it:=T) (h':=h2) (t':=s.toks) I1 (λb o hb hq=>(oth b hb).trans hq) hHT ?_ (.inr (Nat.le_trans I.sz hT)) (λx c hc z=>?_) λp hp=>hpT p (by simpa using hp)
  .exact λz=>absurd (lw I.lt hT) (by rw[z];exact Nat.lt_irrefl _)
  .obtain⟨v,o,ho,_⟩:=I.cell x c hc;exact absurd (lw (sn ho) hT) (by rw[z];exact Nat.lt_irrefl _)
 exact q _ T I2 rfl (Nat.le_trans I.sz hT) hHT hpT kg
def kS {P:Program}{w:World}{K:W.Frag}{mg:AF}{base:Heap}{N:List Str}{qual:Str}{scope:Scope}{f:Addr}{cd:Value}{outer:List Env}{E:XK}:
  yd (lz (nK P w) P w K mg base N qual scope f cd A outer s H E) (λ_=>E):=by
 intro σ' H' s' e C dx fs I sf he q;show wpAny _ _ (do noteFrame (.ref e) _;setFlight (.ref e) none) _ _ s';refine ad (lM I rfl rfl sf he λs2 T J os hT hH _ st=>?_);exact⟨e,H',C,dx,fs,T,rfl,J.os,J.bare,J.base,J.hok,he,hT,hH,st,q⟩
end
structure x6 (K:W.Frag) (C f:Addr):Prop where
 mks:aL K C=true
 init:W.findIn K (.ref C) "__init__"=some (some (.ref f))
 fn:W.isFn K (.ref f)=true
 kp:W.keepIn K (.ref C)=true
variable {us:List Value}{vs:List V}
section
variable {X:Cx}{Y:AE}{U:St}{H:Hp}{s:Shared}{C f:Addr}
def Inv.so (us:List Value)(I:Inv X Y U H s):Inv X Y U (upd H (s.heap.objs.size+1) (.exc C none [] true))
  { s with heap:=(s.heap.push { cls:=.type "tuple",data:=.seq us.toArray }).push { cls:=.ref C,data:=.fields #[.ref s.heap.objs.size,.none,.none,.none,.bool false,.none] } }:=by
 have I1:=I.kept (h':=s.heap.push { cls:=.type "tuple",data:=.seq us.toArray }) (t':=s.toks) λb u q=>re _ q
 refine Inv.laid (s:={ s with heap:=s.heap.push { cls:=.type "tuple",data:=.seq us.toArray } }) (a:=s.heap.objs.size+1) (o:=.exc C none [] true) (t':=s.toks) I1 (λb u q=>re _ q) (Nat.le_of_eq (Heap.size_push _ _)) ?_;refine⟨⟨#[.ref s.heap.objs.size,.none,.none,.none,.bool false,.none],?_,rfl,λ_=>rfl⟩,.inl ⟨rfl,rfl⟩⟩;have:=ss (s.heap.push { cls:=.type "tuple",data:=.seq us.toArray }) (o:={ cls:=.ref C,data:=.fields #[.ref s.heap.objs.size,.none,.none,.none,.bool false,.none] }) rfl
 rwa [Heap.size_push]at this
variable {CX:kb}{k:Nat}{fd:FuncData}{ps:List Str}{sp:Sp}{dvs:List V}{ds:List Value}{E:St->XK}{x m:Str}{p pos apos:Pos}{e o:Expr}{es:List Expr}{ta:TE}{t:TA}
abbrev nM (C:Addr)(sp:Sp)(dvs:List V)(E:St->XK)(t:TA):TE:=λU H Q=>t U H λvs H1=>vs.length<=1000/\∀ x,H1 x=none->sp (.ref x::(vs++dvs)) (upd H1 x (.exc C none [] true)) (λv H2=>v=.non/\Q (.ref x) H2) (E U)
def gf {Q:VK}(M:x6 X.K C f)(F:ba X.prog X.w X.K X.mg X.base CX k f fd ps sp)(hr:aG (k+1) X.A)(hb:Binds X.K fd ps ds)(hd:Vals dvs ds)
  (hx:Passes CX X E) (hz:us.length<=bm) (I:Inv X Y U H s) (r:Vals vs us)
  (h:∀ x,H x=none->sp (.ref x::(vs++dvs)) (upd H x (.exc C none [] true)) (λv H2=>v=.non/\Q (.ref x) H2) (E U)):
  wpAny (model X.prog X.w) X.A (call (.ref C) us) (EP X Y U Q) X.xe s:=by
 have hq:=h (s.heap.objs.size+1) (I.hok.fresh (Nat.le_succ _));have I2:=Inv.so (C:=C) us I;have r2:Vals (V.ref (s.heap.objs.size+1)::(vs++dvs)) (Value.ref (s.heap.objs.size+1)::(us++ds)):=.cons rfl (r.append hd);have hl:(Value.ref (s.heap.objs.size+1)::us++ds).length=ps.length:=by
  have e:=r2.length;rw[F.len _ _ _ _ hq]at e;exact e.symm
 obtain⟨hh,g,d,tk,os⟩:=s;refine wpAny_call (vN (fI:=f) I.aJ hz M.mks M.init (beq_iff_eq.mp M.fn) (codeAny_mono (F.run _ X.stack _ _ ⟨Value.ref (hh.objs.size+1)::us,[]⟩ (Value.ref (hh.objs.size+1)::(us++ds)) _ _ (E U) (hr.make C us [])
  (I2.dc.make C us []) (hb _ (Value.ref (hh.objs.size+1)::us) I2.aJ hl) r2 hq) λr s' hq'=>?_))
 cases r with
 |error e=>exact hx Y U _ _ e s' I2 hq'
 |ok fl=>
  cases fl with
  |ret u=>
   obtain⟨v,H',J,rv,ev,q⟩:=I2.after hq';subst ev;obtain rfl:u=Value.none:=rv;exact⟨rfl,.ref _,H',J,rfl,q⟩
  |next=>exact False.elim hq'
  |brk=>exact False.elim hq'
  |cont=>exact False.elim hq'
def oH (M:x6 X.K C f)(F:ba X.prog X.w X.K X.mg X.base CX k f fd ps sp)(hr:aG (k+1) X.A)(hg:Gl X x)(hm:X.mg x=some (.ref C))(hb:Binds X.K fd ps ds)(hd:Vals dvs ds)(hx:Passes CX X E)
  (ha:PA X (e::es) t) (hdb:(x ==("__debug__":Str))=false:=by decide) (he:bi (e::es) X.env=(false,eval e X.env)::bi es X.env:=by rfl) (hpl:(backTo pos (bi es X.env)).any (·.1)=false:=by rfl):
  PE X (.Call (.Name x p) (e::es) [] pos) (nM C sp dvs E t):=by
 intro Y s U H Q I h;refine bn (aI I hg hm ?_ hdb);refine W.callWith_K (h₀:=X.base) I.ok.mod.kin M.kp (ak (ha pos Y s U H _ I h) λus s1 ⟨vs,H1,I1,r,z,q⟩=>⟨I1.aJ,?_⟩) he hpl;exact gf M F hr hb hd hx (by rw[nil_append,<-r.length];exact Nat.le_of_lt (bT z)) I1 r q
structure uq (K:W.Frag) (C:Addr):Prop where
 mks:aL K C=true
 init:W.findIn K (.ref C) "__init__"=some (some (.builtin "ValueError.__init__"))
 kp:W.keepIn K (.ref C)=true
 cls:aU K C
abbrev qh (C:Addr)(t:TA):TE:=λU H Q=>t U H λvs H1=>vs.length=1/\∀ x,H1 x=none->Q (.ref x) (upd H1 x (.exc C none [] true))
def jq {Q:VK}(M:uq X.K C)(I:Inv X Y U H s)(r:Vals vs us)(h1:vs.length=1)(h:∀ x,H x=none->Q (.ref x) (upd H x (.exc C none [] true))):
  wpAny (model X.prog X.w) X.A (call (.ref C) us) (EP X Y U Q) X.xe s:=by
 have hq:=h (s.heap.objs.size+1) (I.hok.fresh (Nat.le_succ _));have I2:=Inv.so (C:=C) us I;obtain⟨u,rfl⟩:∃ u,us=[u]:=by
  have e:=r.length;rw[h1]at e
  match us,e with
  | [u],_=>exact⟨u,rfl⟩
 obtain⟨hh,g,d,tk,os⟩:=s;refine wpAny_call (pV I.aJ (by rw[sizeLine_eq];exact mo rfl) M.mks M.init (fg (C:=C) (dx:=none) (fs:=[]) (fr:=true) I2 ag M.cls λs' J=>?_));exact⟨rfl,.ref _,_,J,rfl,hq⟩
def mZ (M:uq X.K C)(hg:Gl X x)(hm:X.mg x=some (.ref C))(ha:PA X (e::es) t)(hdb:(x ==("__debug__":Str))=false:=by decide) (he:bi (e::es) X.env=(false,eval e X.env)::bi es X.env:=by rfl) (hpl:(backTo pos (bi es X.env)).any (·.1)=false:=by rfl):
  PE X (.Call (.Name x p) (e::es) [] pos) (qh C t):=by
 intro Y s U H Q I h;refine bn (aI I hg hm ?_ hdb);refine W.callWith_K (h₀:=X.base) I.ok.mod.kin M.kp (ak (ha pos Y s U H _ I h) λus s1 ⟨vs,H1,I1,r,z,q⟩=>⟨I1.aJ,?_⟩) he hpl;exact jq M I1 r z q
structure zF (K:W.Frag) (B:Addr):Prop where
 ga:W.specialIn K (.ref B) "__getattribute__"=some (some (.builtin "type.__getattribute__"))
 rd:W.readsIn K B (.type "type")=true
 fi:W.findCls K (.ref B) (.type "type") "__init__"=some (.val (.builtin "ValueError.__init__"))
abbrev yQ (K:W.Frag)(t:TA):TE:=λU H Q=>t U H λvs H1=>∃ a C dx fs fr v,vs=[.ref a,v]/\H1 a=some (.exc C dx fs fr)/\aU K C/\Q .non H1
def vp {B:Addr}{pl:Sem Bool}{np:Pos}(b:zF X.K B)(hg:Gl X x)(hm:X.mg x=some (.ref B))(ha:PA X (e::es) t)(hdb:(x ==("__debug__":Str))=false:=by decide)
  (hst:bi (e::es) X.env=(false,eval e X.env)::bi es X.env:=by rfl) (hpl:(backTo pos (bi es X.env)).any (·.1)=false:=by rfl)
  (ht:eval (.Call (.Attribute (.Name x np) "__init__" apos) (e::es) [] pos) X.env=(do
   let ov <-eval (.Name x np) X.env
   standAt apos.atName
   let(f,first) <-holding [ov] (getMethod ov "__init__" pl)
   callWith pos f first (backTo pos (bi (e::es) X.env)) (backToKw pos (keywordEach [] X.env))):=by rfl):
  PE X (.Call (.Attribute (.Name x np) "__init__" apos) (e::es) [] pos) (yQ X.K t):=by
 intro Y s U H Q I h;refine W.methodCall_KW (pl:=pl) (aI I hg hm ?_ hdb) ht;refine W.method_cls I.aJ b.ga (W.cls_value I.aJ b.rd b.fi (by decide+kernel) ?_);refine PyProof.Rows.callWith_builtin1 (ak (ha pos Y _ U H _ (I.tok _) h) λus s1 ⟨vs,H1,I1,r,a,C,dx,fs,fr,v,ev,ea,c,q⟩=>?_) hst hpl;subst ev;cases r with
 |cons r1 r2=>
  cases r2 with
  |cons r3 r4=>
   cases r4;cases r1;exact jH I1 ea c λs' J=>⟨.non,H1,J,rfl,q⟩
structure Ab (K:W.Frag) (C f:Addr):Prop where
 ga:W.specialIn K (.ref C) "__getattribute__"=some (some (.builtin "type.__getattribute__"))
 rd:W.readsIn K C (.type "type")=true
 fi:W.findCls K (.ref C) (.type "type") "__init__"=some (.val (.ref f))
 kp:W.keepIn K (.ref f)=true
end
section
open PySem.Builtin PySem.Builtin.ObjectAttr
variable {prog:Program}{w:World}{A:Around}{E:AD}{s:Shared}{K:W.Frag}{x C:Addr}{ox:Obj}{odo:Option Obj}
structure ow (K:W.Frag) (C:Addr):Prop where
 ha:W.findIn K (.ref C) "__class__"=some (some (.builtin "object.__class__"))
 hn:W.specialIn K (.builtin "object.__class__") "__get__"=some (some (.builtin "getset_descriptor.__get__"))
 htk:W.takesIn K (.builtin "object.__class__")=some true
def qR {Q:Option Value->Shared->Prop}(X:K.In s.heap)(I:W.InstAt s.heap x ox C odo)(c:aU K C)(z:ow K C)(hfo:W.findObj K C odo "__class__"=some (.bind (.builtin "getset_descriptor.__get__") (.builtin "object.__class__")))
  (h:Q (some (.ref C)) { s with toks:=s.toks+1 }):wpAny (model prog w) A (getAttr? (.ref x) "__class__") Q E s:=by
 obtain⟨hp,g,d,t,os⟩:=s;have L0:=I.type (M:=model prog w);have L1:=looks_findIn (M:=model prog w) X c.ga;have L2':=looks_findIn (M:=model prog w) X c.gn;have L3:=looks_find (M:=model prog w) X I hfo;have L4:Looks (model prog w) hp (isInstance (.ref x) (.type "BaseException")) true:=I.type.andThen (looks_mroIn X (c.sub (by decide+kernel)));unfold getAttr? getAttrBy? getAttrBy;refine ad (wpAny_mkText (ad (wpAny_attempt (bd (ad (L0.at (ad (L1.at ?_))))))));have e1:(Value.builtin "BaseException.__getattribute__" ==Value.builtin "object.__getattribute__")=false:=by decide+kernel
 dsimp only;rw[e1,Bool.and_false];show wpAny _ _ (getAttrByItsOwn _ _ _ _ _ _) _ _ _;unfold getAttrByItsOwn hookBefore;refine ad (L2'.at ?_);refine ad (wpAny_attempt (bd ?_));unfold callGetattribute;show wpAny _ _ (boundAndCalled _ _ _) _ _ _;unfold boundAndCalled;rw[PySem.F.attr_ValueError.ga.bind];refine ad (am (wpAny_call (codeAny_call_builtin PySem.F.attr_ValueError.ga.plain PySem.F.entry_bexc_ga ?_)));refine @check_slot (model prog w) _ _ _ "BaseException.__getattribute__" "BaseException" "__getattribute__" (.ref x) [.str "__class__" t] [] _ iq fY L4 (PySem.F.args_bexc_ga (.ref x) (.str "__class__" t)) ?_;unfold Builtin.«object.__getattribute__»;refine ad (am (ad (am (ad (L0.at (ad (L3.at ?_)))))));show wpAny _ _ (holding [_] (call _ [_,.ref x,.ref C]) >>= ret) _ _ _;refine ad (bd (wpAny_call (class_get (s:=⟨hp,g,d,t+1,os⟩) (ox:=ox) (od:=odo) X I (c.sub (by decide+kernel)) ?_)));refine am ?_;show wpAny _ _ (handedOut (.ref C)) _ _ _;exact handed_on rfl (am h)
def oz (c:aU K C)(z:ow K C):W.findObj K C odo "__class__"=some (.bind (.builtin "getset_descriptor.__get__") (.builtin "object.__class__")):=by
 obtain⟨cd,hc,_⟩:=W.any_some c.hd;unfold W.findObj;rw[hc,Option.bind_some,z.ha,Option.bind_some];simp[z.hn,z.htk]
def oi (c:aU K C)(z:ow K C):W.KitX K (.ref x) (.ref C) (λh=>W.InstAt h x ox C odo) where
 ty:=λ_ _ _ I=>I.type
 it:=λ_ _ X _=>by
  obtain⟨cdD,hcD,_⟩:=W.any_some c.hd;unfold W.clsIn at hcD
  split at hcD
  .rename_i c' d' cd' sl' ho;intro A' Q' E' s' k q;unfold isType loadHead;exact ad (wpAny_loadPart (k _ _ (X _ _ ho)) (am q))
  .cases hcD
 ne:=λh tp dd its n sl X htp=>by
  obtain⟨cdD,hcD,_⟩:=W.any_some c.hd;refine Bool.eq_false_iff.mpr λq=>?_
  have e:C=tp:=Value.ref.inj (beq_iff_eq.mp q);subst e;unfold W.clsIn at hcD
  split at hcD
  .rename_i c' d' cd' sl' ho;have z:=(X _ _ ho).symm.trans htp;cases z
  .cases hcD
 ca:=λX I k=>qR X I c z (oz c z) k
end
section
variable {X:Cx}{Y:AE}{U:St}{H:Hp}{s:Shared}{a C:Addr}{dx:Option Addr}{fs:List (Str×V)}{fr:Bool}
def nI (I:Inv X Y U H s)(e:H a=some (.exc C dx fs fr)):∃ ox odo,W.InstAt s.heap a ox C odo:=by
 obtain⟨⟨vs,ho,_⟩,z⟩:=id (I.hok a _ e);rcases z with⟨rfl,_⟩|⟨d,rfl,_,_,_,mA,⟨od,es,ep,hod,_⟩,_⟩
 .exact⟨_,none,ho,rfl,rfl,True.intro⟩
 .exact⟨_,some od,ho,rfl,rfl,hod⟩
def mx {E:AD}{Q:AD}{cv:Value}{b:Bool}(I:Inv X Y U H s)(e:H a=some (.exc C dx fs fr))(c:aU X.K C)(z:ow X.K C)(k:W.kitOne X.K (.ref C) cv=some b)
  (h:∀ tk,Q (.bool b) { s with toks:=tk }):wpAny (model X.prog X.w) A (call (.builtin "isinstance") [.ref a,cv]) Q E s:=by
 obtain⟨ox,odo,J⟩:=nI I e;exact W.kia_one (oi (ox:=ox) (odo:=odo) c z) I.aJ J k (λz=>nomatch z) h
end
end L2
namespace L2
open PySem PySem.Spec PySem.W PyProof.Rows
variable {dx:Option Addr}
section
variable {X:Cx}{f:Str}{o value ex:Expr}{ta tv te:TE}{pos pos':Pos}{E:St->XK}
def jk {h:Heap}{a:Addr}{C:Addr}{vs:Array Value}{M:Model}(ho:h.get? a=some { cls:=.ref C,dict:=dx,data:=.fields vs }):W.Looks M h (isType (.ref a)) false:=by
 intro A Q E s k q;unfold isType loadHead;exact ad (wpAny_loadPart (k _ _ ho) (am q))
abbrev ub (K:W.Frag)(E:St->XK)(te:TE):TS:=λD U H=>te U H λv H1=>∃ a C dx fs,v=.ref a/\H1 a=some (.exc C dx fs true)/\aU K C/\E U a (upd H1 a (.exc C dx fs false))
def mq (hx:yd X E)(hc:X.calm=true)(he:PE X ex te):PS X (.Raise (some ex) none pos) (ub X.K E te):=by
 intro Y s U H D I h;rw[arm_exec_Raise];simp only[evalOpt,Option.map];refine ad (wpAny_standAt ?_);unfold raiseStmt;refine ad (ad (ak (he Y s U H _ I h) λu s1 ⟨y,H1,I1,ry,a,C,dx,fs,ey,ea,c,q⟩=>ad (wpAny_standAt (am ?_))));subst ey;obtain rfl:u=Value.ref a:=ry;obtain⟨⟨vs,ho,hsz,h1⟩,z⟩:=id (I1.hok a _ ea);have h1':=h1 rfl;have hq:X.xe (.ref a) s1:=by
  have J:Inv X [] U (upd H1 a (.exc C dx fs false)) s1:=by
   have J1:=I1.nU.write (x:=a) (e:=a) (o:=.exc C dx fs false) (t':=s1.toks) (h':=s1.heap) (by rw[ea];exact True.intro) (.inl rfl) (λ_ _ _ q=>q) ⟨_,ho⟩ ?_
   .exact J1
   .refine⟨⟨vs,ho,hsz,λy=>by cases y⟩,?_⟩;rcases z with z|⟨d,ed,d1,z1,ne,r⟩
    .exact .inl z
    .exact .inr ⟨d,ed,by rw[ab ne];exact d1,z1,ne,r⟩
  exact hx U _ s1 a C dx fs J (.inl ⟨_,vs,ho,rfl,h1'⟩) ag q
 obtain⟨hp,g,d,tk,os⟩:=s1;have L0:Looks (model X.prog X.w) hp (typeOf (.ref a)) (.ref C):=(Looks.ld ho).andThen .now;have L1:Looks (model X.prog X.w) hp (isType (.ref a)) false:=jk ho;have L2':Looks (model X.prog X.w) hp (isInstance (.ref a) (.type "BaseException")) true:=L0.andThen (looks_mroIn I1.aJ (c.sub (by decide+kernel)));have L5:Looks (model X.prog X.w) hp (typeOf (.ref C)) (.type "type"):=looks_typeIn I1.aJ c.mt;have tt:(Value.type "type" ==Value.type "type")=true:=by decide
 repeat(first|simp only[Bool.false_eq_true,if_false,if_true,tt]|lk)
 rw[h1'];refine am ?_;rw[if_neg (by decide)];exact am (wpAny_raiseNew_none (I1.ok.hd hc) hq)
end
@[reducible]def Cx.aA (X:Cx) (e:Value):Cx:={ X with A:=X.A.mark (some e),calm:=false,xe:=λ_ _=>False }
section
variable {X:Cx}{Y:AE}{U:St}{H:Hp}{s:Shared}
def Cx.Ok.aA (ok:X.Ok)(e:Value):(X.aA e).Ok:=
 ⟨ok.mod,ok.kind,ok.glob,ok.blt,ok.above,ok.inj,ok.has,ok.cab,(λz=>by cases z),ok.frames,ok.stk,ok.exf,ok.bs,ok.bsz,ok.noex,ok.exfs,ok.fj,ok.frf⟩
def Inv.aA (I:Inv X Y U H s)(e:Value):Inv (X.aA e) Y U H s:=⟨I.ok.aA e,I.os,I.bare,I.base,I.loc,I.cell,I.free,I.freeC,I.pin,I.hok,I.len⟩
def Inv.dX {e:Value}(ok:X.Ok)(I:Inv (X.aA e) Y U H s):Inv X Y U H s:=⟨ok,I.os,I.bare,I.base,I.loc,I.cell,I.free,I.freeC,I.pin,I.hok,I.len⟩
def bW {M:Model}{A:Around}{E:AD}{Q:AB}{i:Nat}{n:Str}{pos:Pos}(I:Inv X Y U H s)(hN:X.N.Nodup)(hi:X.N[i]? =some n)(hn:X.env.scope.names.lookup n=some .local)
  (h:∀ s',Inv X Y (U.set i none) H s'->Q () s'):wpAny M A (do bindName X.env n .none;unbindBehindTheSuite X.env n pos) Q E s:=by
 have hcls:(X.env.scope.kind ==.class||(X.env.scope.kind ==.module&&X.env.locals != X.env.globals))=false:=by rw[I.ok.kind];rfl
 refine ad (wpAny_bindName (cT I hN hi (.inl hn) (v:=.non) rfl (λs1 I1=>?_) (.inr hn)));obtain⟨m,hm,hl⟩:=I1.loc;unfold unbindBehindTheSuite;refine wpAny_onRaise ?_;unfold unbindName;refine ad (wpAny_point (ad ?_));unfold deleteName;have hk:X.env.kindOf n=some .local:=hn;have hiσ:i<U.length:=by rw[I.len];exact(pi.mp hi).1
 have hmn:(m n).isSome=true:=by
  obtain⟨u,_,l⟩:=hl i n .non hi (by rw[getElem?_set_self hiσ]) (.inl hn);rcases l with⟨_,q⟩|⟨q,_⟩
  .rw[q];rfl
  .rcases q with q|q<;>(rw[hk]at q;cases q)
 simp only[hk,hcls];rw[if_neg (by decide)];refine ad (wpAny_nsDel_keeps hm λh2 v hn2 hs2=>?_);rw[hmn];simp only[if_true,Bool.not_true,Bool.false_eq_true,if_false];refine am (wpAny_point (h { s1 with heap:=h2 } ?_));obtain⟨oL,esL,epL,hoL,_⟩:=id hm;have nj:=I1.nj;refine⟨I1.ok,I1.os,I1.bare,⟨λb o e n hb hx=>?_,λb o e n hb hx=>?_,I1.base.free,λb o e hx=>?_,I1.base.tups,I1.base.frzs,I1.base.tbls⟩,⟨_,hn2,λj y v' e1 e2 e3=>?_⟩,λy c e=>?_,I1.free,I1.freeC,λp hp=>?_,λa u ha=>?_,by rw[length_set];exact I.len⟩
 .exact(hs2.2 b (nb (lw (sn e) I1.ok.above))).trans (I1.base.keep b o e n hb hx)
 .obtain⟨sl,q⟩:=I1.base.slot b o e n hb hx;exact⟨sl,(hs2.2 b (nb (lw (sn e) I1.ok.above))).trans q⟩
 .obtain⟨o',q⟩:=I1.base.there b o e hx;exact⟨o',(hs2.2 b (nb (lw (sn e) I1.ok.above))).trans q⟩
 .have hj:j≠i:=λz=>by rw[z,getElem?_set_self hiσ]at e2;cases e2
  rw[getElem?_set_ne (Ne.symm hj)]at e2;obtain⟨u,r,q⟩:=hl j y v' e1 (by rw[getElem?_set_ne (Ne.symm hj)];exact e2) e3;refine⟨u,r,?_⟩;rcases q with⟨k,e⟩|⟨k,c,e,z⟩
  .refine .inl ⟨k,?_⟩;have ny:y≠n:=λz=>hj (d7 hN e1 (z▸hi))
   show(if y=n then v else m y)=some u;rw[if_neg ny];exact e
  .exact .inr ⟨k,c,e,z.sameBut hs2 (nj y c e)⟩
 .obtain⟨w',z⟩:=I1.cell y c e;exact⟨w',z.sameBut hs2 (nj y c e)⟩
 .obtain⟨e,n,ne,nf,d⟩:=I1.pin p hp;exact⟨(hs2.2 p.1 ne).trans e,n,ne,nf,d⟩
 .refine(I1.hok a u ha).cJ (λb o hb hq=>(hs2.2 b ?_).trans hq) (λ_ q=>q) λ_ _ q=>q
  rintro rfl;rcases hb with hb|hb
  .rw[<-hb,I1.free]at ha;cases ha
  .rw[I1.free]at hb;cases hb
def iy {n x:Str}{np hpos:Pos}{b0:Stmt}{aA:List Stmt}{rest:List ExceptHandler}{i:Nat}{D:Ends}{e C Ch T:Addr}{fs:List (Str×V)}{b:Bool}(I:Inv X Y U H s)(he:H e=some (.exc C dx fs false))
  (hT:X.s₀.heap.objs.size<=T) (hH:H T=none) (hp:∀ p ∈ X.pn++Y,p.1≠T) (st:rW s.heap e T .none) (c:aU X.K C) (ch:aU X.K Ch) (hsub:W.mroIn X.K C (.ref Ch)=some b) (hg:Gl X x) (hm:X.mg x=some (.ref Ch))
  (hN:X.N.Nodup) (hi:X.N[i]? =some n) (hn:X.env.scope.names.lookup n=some .local) (hdb:(x ==("__debug__":Str))=false)
  (yes:b=true->∀ s2,Inv (X.aA (.ref e)) Y (U.set i (some (.ref e))) H s2->wpAny (model X.prog X.w) (X.A.mark (some (.ref e))) (execs (b0::aA) X.env)
   (SP (X.aA (.ref e)) Y { nx:=λσ' H'=>D.nx (σ'.set i none) H',rt:=D.rt,bk:=λσ' H'=>D.bk (σ'.set i none) H',ct:=λσ' H'=>D.ct (σ'.set i none) H' }) (λ_ _=>False) s2)
  (no:b=false->wpAny (model X.prog X.w) X.A (handleBy (.ref e) X.env rest) (SP X Y D) X.xe s):
  wpAny (model X.prog X.w) X.A (handleBy (.ref e) X.env (.ExceptHandler (some (.Name x np)) (some n) (b0::aA) hpos::rest)) (SP X Y D) X.xe s:=by
 have I':=I.aA (.ref e);refine wpAny_handleBy_cons (codeAny_handlers_test (aI (X:=X.aA (.ref e)) I' hg hm ?_ hdb)) (by intro q;cases q);obtain⟨⟨vs,ho,hsz,h1⟩,z⟩:=id (I.hok e _ he);have L0:Looks (model X.prog X.w) s.heap (typeOf (.ref e)) (.ref C):=(Looks.ld ho).andThen .now;have L1:Looks (model X.prog X.w) s.heap (typeOf (.ref Ch)) (.type "type"):=looks_typeIn I.aJ ch.mt;have L2':Looks (model X.prog X.w) s.heap (isInstance (.ref Ch) (.type "tuple")) false:=L1.andThen (Looks.of_pure tc_notTuple);have L3:Looks (model X.prog X.w) s.heap (isType (.ref Ch)) true:=by
  obtain⟨cd,rs,hcl,_⟩:=ch.mro;unfold W.clsIn at hcl
  split at hcl
  .rename_i ho';intro A' Q' E' s' k q;unfold isType loadHead;exact ad (wpAny_loadPart (k _ _ (I.aJ _ _ ho')) (am q))
  .cases hcl
 have L4:Looks (model X.prog X.w) s.heap (isSubtype (.ref Ch) (.type "BaseException")) true:=looks_mroIn I.aJ (ch.sub (by decide+kernel));have L5:Looks (model X.prog X.w) s.heap (isSubtype (.ref C) (.ref Ch)) b:=looks_mroIn I.aJ hsub;have L6:Looks (model X.prog X.w) s.heap (isExcClass (.ref Ch)) true:=by
  unfold isExcClass;exact L3.andThen L4
 unfold excMatches;refine ad (L2'.here ?_);rw[if_neg (by decide)];refine ad (am ?_);simp only[forIn_cons,forIn_nil];refine ad (ad (ad (L6.here ?_)));rw[if_neg (by decide)];refine am ?_;refine am ?_;refine ad (L0.here ?_);refine ad (ad (ad (L5.here ?_)));cases b with
 |false=>
  rw[if_neg (by decide)];refine am ?_;refine am ?_;refine am ?_;exact no rfl
 |true=>
  rw[if_pos rfl];refine am ?_;refine am ?_;refine am ?_;refine codeAny_handlers_suite_as (kn st λh2 kg oth _ th2 _=>?_);have I2:Inv X Y U H { s with heap:=h2 }:=by
   refine Inv.turned (it:=T) (h':=h2) (t':=s.toks) I (λb o hb hq=>(oth b hb).trans hq) hH ?_ (.inr hT) (λy cc hc z=>?_) hp
   .intro z;obtain⟨m,⟨o,es,ep,ho',hd,_⟩,_⟩:=I.loc;obtain⟨_,_,oT,ts,_,_,_,_,hT2,hd2,_⟩:=st;rw[z,ho']at hT2;cases hT2;rw[hd]at hd2;cases hd2
   .obtain⟨v,o,ho',hd⟩:=I.cell y cc hc;obtain⟨_,_,oT,ts,_,_,_,_,hT2,hd2,_⟩:=st;rw[<-z,ho']at hT2;cases hT2;rw[hd]at hd2;cases hd2
  refine cT (X:=X.aA (.ref e)) (I2.aA (.ref e)) hN hi (.inl hn) (v:=.ref e) rfl (λs3 I3=>?_) (.inr hn);refine wpAny_mono (yes rfl s3 I3) (λf s4 h4=>?_) λ_ _ z=>z.elim
  cases f with
  |next=>
   obtain⟨σ',H',J,q⟩:=h4;exact bW (J.dX I.ok) hN hi hn λs5 J5=>⟨_,H',J5,q⟩
  |brk=>
   obtain⟨σ',H',J,q⟩:=h4;exact bW (J.dX I.ok) hN hi hn λs5 J5=>⟨_,H',J5,q⟩
  |cont=>
   obtain⟨σ',H',J,q⟩:=h4;exact bW (J.dX I.ok) hN hi hn λs5 J5=>⟨_,H',J5,q⟩
  |ret u=>
   obtain⟨v,σ',H',J,r,q⟩:=h4;exact bW (J.dX I.ok) hN hi hn λs5 J5=>⟨v,_,H',J5,r,q⟩
end
end L2
namespace L2
open PySem PySem.Spec PyProof.Rows
def tX:bootBuiltins "isinstance"=some (.builtin "isinstance"):=by decide+kernel
section
variable {X:Cx}
abbrev wM (K:W.Frag):V->V->Hp->VK->Prop:=λx y H Q=>∃ p xs i v,x=.ref p/\y=.int i/\ax K H p xs/\0<=i/\xs[i.toNat]? =some v/\Q v H
def nu:vy X (wM X.K):=by
 intro Y s U H o i ov iv Q I ro ri h;obtain⟨p,xs,k,z,rfl,rfl,hq,h0,he,q⟩:=h;cases ro;obtain⟨t,rfl⟩:=ri;obtain⟨its,r,pl,hz⟩:=I.list hq;obtain⟨w,ew,rw'⟩:=r.get he;have hl:k.toNat<xs.length:=(pi.mp he).1;have hn:=cx;exact wpAny_getItem_list pl.isList h0 nofun (by simpa using ew) ⟨z,H,I,rw',q⟩
def dW {xs:List V}{us:List Value}(r:Vals xs us){j:Nat}(h:j<us.toArray.size):∃ x,xs[j]? =some x/\RelV x (us.toArray[j]):=by
 have hl:=r.length;have hj:j<us.length:=by simpa using h
 have e:xs[j]? =some xs[j]:=io nofun;obtain⟨u,h1,h2⟩:=r.get e;refine⟨_,e,?_⟩;rw[io hj]at h1;cases h1;simpa using h2
end
section
variable {U:St}{H:Hp}{Q:VK}{D:Ends}{K:W.Frag}
abbrev lY (x:V)(H:Hp)(R:Bool->Hp->Prop):Prop:=∃ k,x=.bl k/\R k H
def a5 {α:Type}{xs:List α}{i:Int}(h0:0<=i)(h1:i<xs.length):∃ v,fR xs i=some v/\v ∈ xs:=by
 obtain⟨n,rfl⟩:=Int.eq_ofNat_of_zero_le h0;have hn:n<xs.length:=by omega
 exact⟨xs[n],rj (io hn),List.getElem_mem hn⟩
end
section
variable {K:W.Frag}{g:TG}{tb:TS}{D:Ends}{U:St}{H:Hp}{tl:TE}{ta:TA}
end
def fits {n:Nat}(h:n<=1000):n<=bm:=Nat.le_of_lt (bT h)
section
variable {X:Cx}{H:Hp}{Q:VK}
end
section
variable {K:W.Frag}
end
section
variable {H H':Hp}{h c p:Addr}{m n:Int}{o:HO}
end
def xi (ns:List Int)(h:ns.length<=63):hX (ns.map V.int) none (some 63)=ns.map V.int:=by
 have e1:HT.cf (ns.map V.int).length 0 none=0:=rfl;have e2:HT.cf (ns.map V.int).length (ns.map V.int).length (some 63)=(ns.map V.int).length:=by
  show(if(63:Int)<0 then((63:Int)+((ns.map V.int).length:Int)).toNat else min (63:Int).toNat (ns.map V.int).length)=(ns.map V.int).length;rw[if_neg (by decide),bv];show min 63 ns.length=ns.length
  omega
 unfold hX;rw[e1,e2,drop_zero,Nat.sub_zero,List.take_length]
variable {ns:List Int}
def jD {i:Nat}{x:V}(h:(ns.map V.int)[i]? =some x):∃ z,x=V.int z:=by
 rw[gt]at h;cases e:ns[i]? with
 |none=>rw[e]at h;cases h
 |some z=>rw[e]at h;exact⟨z,(Option.some.inj h).symm⟩
def mG {i:Int}(h0:0<=i)(h1:i<ns.length):∃ z,fR (ns.map V.int) i=some (.int z):=by
 obtain⟨v,a,m⟩:=a5 (xs:=ns.map V.int) h0 (by rw[bv];exact h1);obtain⟨z,_,rfl⟩:=List.mem_map.mp m;exact⟨z,a⟩
section
variable {H:Hp}{Q:VK}
end
section
variable {X:Cx}
end
variable {A:Around}{E:AD}{s:Shared}
def r6 {α:Type}{t:Sem α}{Q Q':α->Shared->Prop}{M:Model}(h:wpAny M A t Q (λ_ _=>False) s) (hQ:∀ a s,Q a s->Q' a s):wpAny M A t Q' E s:=wpAny_mono h hQ λ_ _ x=>x.elim
abbrev b6 (X:Cx)(scope:Scope)(cl:List (Str×Addr))(N:List Str)(s:Shared)(H:Hp)(fp:List Addr):Cx:=
 { X with N:=N,s₀:=s,H₀:=H,env:=compEnvC scope cl s.heap.objs.size X.env,outer:=X.stack,stack:=X.stack,ex:=fp,fn:=λ_=>false,pn:=[],xe:=λ_ _=>False }
structure az (X:Cx) (scope:Scope) (cl:List (Str×Addr)) (xs:List Str) (fr:List Str) (sel:List Nat):Prop where
 clos:closureFor scope X.env=pure cl
 sub:∀ y c,cl.lookup y=some c->X.env.cells.lookup y=some c
 has:∀ y,((relabel scope X.env).names.lookup y=some .cell\/(relabel scope X.env).names.lookup y=some .free)->∃ c,cl.lookup y=some c
 kind:scope.kind=.function
 nocell:∀ y ∈ scope.names,y.2≠.cell
 names:∀ y ∈ scope.names,y.2=.local->scope.names.lookup y.1=some .local
 own:∀ x ∈ xs,scope.names.lookup x=some .local
 len:sel.length=fr.length
 out:∀ (j:Nat) (y:Str),fr[j]? =some y->∃ i,sel[j]? =some i/\X.N[i]? =some y/\X.env.scope.names.lookup y=some .cell/\(relabel scope X.env).names.lookup y=some .cell
 nd:(xs++fr).Nodup
abbrev dI (U:St)(sel:List Nat):St:=sel.map λi=>U.getD i none
abbrev LC (te:TE)(J:It)(σ₀:St)(H1:Hp)(Q:VK):Prop:=∀ D,H1 D=none->∃ W:Nat->Nat->St->Hp->Prop,(∃ m,W 0 m σ₀ (upd H1 D (.lst [])))/\∀ i m σ' H',W i m σ' H'->
 (J.stop i H'/\Q (.ref D) H')\/(J.go i H'/\∃ N:St->Hp->Prop,(∀ σ2 H2,N σ2 H2->∃ m',m'<m/\W (i+1) m' σ2 H2)/\
  ∀ x H'',J.yld i H' x H''->te (σ'.set 0 (some x)) H'' λv H3=>∃ zs,H3 D=some (.lst zs)/\zs.length<bm/\N (σ'.set 0 (some x)) (upd H3 D (.lst (zs++[v]))))
abbrev gate (env:Env):List Expr->Sem Bool
 | []=>pure true
 |c::_=>isTrue c env (eval c env)
variable {ifs:List Expr}{scope:Scope}{pos:Pos}
def j6 {M:Model}{elt target iter:Expr}{it acc:Value}{env:Env}{Q:PySem.Fin->Shared->Prop}(hi:ifs.length<=1)
  (h:wpAny M A (pyNext it) (λr s1=>match r with
   |none=>Q (.done .next) s1
   |some v=>wpAny M A (letOwnedTupleGo target it v) (λ_ s2=>wpAny M A (assign target env v) (λ_ s3=>wpAny M A (gate env ifs) (λok s4=>
    (ok=true->wpAny M A (eval elt env) (λx s5=>wpAny M A (call (.builtin "list.append") [acc,x]) (λ_ s6=>wpAny M A (again (.compLoop (.ListComp elt [⟨target,iter,ifs,0⟩] scope pos) 0 it acc env)) Q E s6) E s5) E s4)/\
    (ok=false->wpAny M A (again (.compLoop (.ListComp elt [⟨target,iter,ifs,0⟩] scope pos) 0 it acc env)) Q E s4)) E s3) E s2) E s1) E s):
  wpAny M A (compTurn (.ListComp elt [⟨target,iter,ifs,0⟩] scope pos) 0 it acc env) Q E s:=by
 have key:∀ {g:Sem Bool}{K:Sem PySem.Fin}{s:Shared},wpAny M A g (λok s4=>
    (ok=true->wpAny M A (eval elt env) (λx s5=>wpAny M A (call (.builtin "list.append") [acc,x]) (λ_ s6=>wpAny M A K Q E s6) E s5) E s4)/\
    (ok=false->wpAny M A K Q E s4)) E s->wpAny M A (g >>= λok=>if ok=true then(eval elt env >>= λx=>call (.builtin "list.append") [acc,x] >>= λ_=>pure ()) >>= λ_=>K else K) Q E s:=λ{g K s} h=>by
  refine ad (wpAny_mono h (λok s4 h4=>?_) λ_ _ e=>e);cases ok with
  |false=>exact h4.2 rfl
  |true=>exact ad (ad (wpAny_mono (h4.1 rfl) (λx s5 h5=>ad (wpAny_mono h5 (λ_ s6 h6=>am h6) λ_ _ e=>e)) λ_ _ e=>e))
 match ifs,hi with
 | [],_=>
  rw[compTurn_list1];refine ad (wpAny_standAt (ad (wpAny_mono h (λr s1 h1=>?_) λ_ _ e=>e)));cases r with
  |none=>exact am h1
  |some v=>
   refine ad (wpAny_mono h1 (λ_ s2 h2=>ad (wpAny_mono h2 (λ_ s3 h3=>?_) λ_ _ e=>e)) λ_ _ e=>e);exact key (g:=pure true) h3
 | [c],_=>
  unfold compTurn;simp only[List.getElem?_cons_zero,List.getElem?_cons_succ,List.getElem?_nil];dsimp only[forIn,List.forIn',List.forIn'.loop,forIn'];rw[if_neg (by decide),if_neg (by decide)];refine ad (wpAny_standAt (ad (wpAny_mono h (λr s1 h1=>?_) λ_ _ e=>e)));cases r with
  |none=>exact am h1
  |some v=>
   refine ad (wpAny_mono h1 (λ_ s2 h2=>ad (wpAny_mono h2 (λ_ s3 h3=>?_) λ_ _ e=>e)) λ_ _ e=>e);refine key ?_;rw[if_pos rfl];refine ad (ad (wpAny_mono h3 (λok s4 h4=>am ?_) λ_ _ e=>e));exact am h4
abbrev LCg (tg:TG)(tc:TT)(te:TE)(J:It)(σ₀:St)(H1:Hp)(Q:VK):Prop:=∀ D,H1 D=none->∃ W:Nat->Nat->St->Hp->Prop,(∃ m,W 0 m σ₀ (upd H1 D (.lst [])))/\∀ i m σ' H',W i m σ' H'->
 (J.stop i H'/\Q (.ref D) H')\/(J.go i H'/\∃ N:St->Hp->Prop,(∀ σ2 H2,N σ2 H2->∃ m',m'<m/\W (i+1) m' σ2 H2)/\
  ∀ x H'',J.yld i H' x H''->tg x σ' H'' λσ2 H2=>tc σ2 H2 λb H3=>(b=true->te σ2 H3 λv H4=>∃ zs,H4 D=some (.lst zs)/\zs.length<bm/\N σ2 (upd H4 D (.lst (zs++[v]))))/\(b=false->N σ2 H3))
abbrev yes:TT:=λ_ H Q=>Q true H
variable {te:TE}
def LC.g {J:It}{σ₀:St}{H1:Hp}{Q:VK}(h:LC te J σ₀ H1 Q):LCg (cW 0) yes te J σ₀ H1 Q:=λD hD=>by
 obtain⟨W,w0,turn⟩:=h D hD;refine⟨W,w0,λi m σ' H' w=>?_⟩;rcases turn i m σ' H' w with z|⟨go,N,hN,step⟩
 .exact .inl z
 .exact .inr ⟨go,N,hN,λx H'' y=>⟨λ_=>step x H'' y,λe=>nomatch e⟩⟩
abbrev xW (X:Cx)(ifs:List Expr)(tc:TT):Prop:=ifs.length<=1/\∀ (Y:AE) (s:Shared) (U:St) (H:Hp) (Q:Bool->Hp->Prop),Inv X Y U H s->tc U H Q->wpAny (model X.prog X.w) X.A (gate X.env ifs) (TP X Y U Q) X.xe s
variable {X:Cx}
def gJ:xW X [] yes:=⟨Nat.zero_le _,λY s U H Q I q=>am ⟨H,I,q⟩⟩
def qu {c:Expr}{tc:TT}(h:PT X c tc):xW X [c] tc:=⟨nl _,h⟩
abbrev jb (xs:List Str):St:=xs.map λ_=>none
abbrev zx (wi:TI)(te:TE)(sel:List Nat):TE:=λU H Q=>wi U H λJ H1=>LC te J (none::dI U sel) H1 Q
abbrev wb (wi:TI)(tg:TG)(tc:TT)(te:TE)(xs:List Str)(sel:List Nat):TE:=λU H Q=>wi U H λJ H1=>LCg tg tc te J (jb xs++dI U sel) H1 Q
variable {cl:List (Str×Addr)}{xs fr:List Str}{sel:List Nat}{fp:List Addr}
section
variable {X:Cx}
def Un.sameBut {fs ex:List Addr}{H H':Hp}{h h1 h2:Heap}{C:Addr}(u:Un fs ex H H' h h1)(hs:Heap.SameBut C h1 h2)(hC:h.objs.size<=C):Un fs ex H H' h h2:=by
 have ne:∀ b o,h.get? b=some o->b≠C:=λb o e=>nb (lw (sn e) hC)
 refine⟨λb o e n hb hx=>(hs.2 b (ne b o e)).trans (u.keep b o e n hb hx),λb o e n hb hx=>?_,u.free,λb o e hx=>?_,u.tups,u.frzs,u.tbls⟩
 .obtain⟨sl,q⟩:=u.slot b o e n hb hx;exact⟨sl,(hs.2 b (ne b o e)).trans q⟩
 .obtain⟨o',q⟩:=u.there b o e hx;exact⟨o',(hs.2 b (ne b o e)).trans q⟩
def ik {Y:AE}{U:St}{H:Hp}{h':Heap}{tk:Nat}{m':AF}
  (S:az X scope cl xs fr sel) (I:Inv X Y U H s) (f2:∀ b ∈ fp,ei X Y H b) (fo:∀ b ∈ fp,b<s.heap.objs.size) (hns:h'.Ns s.heap.objs.size m') (keep:∀ b o,s.heap.get? b=some o->h'.get? b=some o):
  Inv (b6 X scope cl (xs++fr) s H fp) (X.pn++Y) (jb xs++dI U sel) H { s with heap:=h',toks:=tk }:=by
 have stk:∀ b,b≠X.env.locals->b ∉ X.fs->b ∉ gv X.stack:=λb h1 h2 hb=>(le.mp (I.c4 b hb)).elim h1 h2
 refine⟨⟨I.ok.mod,S.kind,I.ok.glob,I.ok.blt,nl _,λy z c h1 h2=>I.ok.inj y z c (S.sub y c h1) (S.sub z c h2),λy hy=>S.has y hy,(λy c h=>nomatch h),I.ok.hd,I.ok.frames,.inl rfl,λb hb=>⟨nb (fo b hb),λy c h=>(f2 b hb).2.2.2.2.1 y c (S.sub y c h)⟩,I.bs,
  Nat.le_trans I.ok.bsz I.sz,λb o e hb=>?_,λb hb=>stk b (f2 b hb).2.1 (f2 b hb).2.2.1,I.stack,I.gI⟩,
  rfl,I.bare,Un.kept keep,⟨m',hns,λi y v e1 e2 e3=>?_⟩,λy c h=>?_,I.hok.fresh (nl _),λy c h=>I.freeC y c (S.sub y c h),λp hp=>?_,I.hok.kept keep,?_⟩
 .rcases(f2 b hb).2.2.2.1 with z|z
  .exact I.ok.noex b o e z
  .exact absurd (lw (lw (sn e) I.ok.bsz) z) (Nat.lt_irrefl _)
 .have hln:(jb xs).length=xs.length:=bv ..
  by_cases hlt:i<xs.length
  .rw[List.getElem?_append_left (by rw[hln];exact hlt)]at e2;unfold jb at e2;rw[gt,io hlt]at e2;cases e2
  .obtain⟨j,rfl⟩:∃ j,i=xs.length+j:=⟨i-xs.length,by omega⟩;have e1':fr[j]? =some y:=by
    have e1:(xs++fr)[xs.length+j]? =some y:=e1;rw[getElem?_append_right nofun,show xs.length+j-xs.length=j by omega]at e1;exact e1
   obtain⟨i,hi,hN,k1,k2⟩:=S.out j y e1';have e2':(dI U sel)[j]? =some (some v):=by
    rw[getElem?_append_right (by rw[hln];omega),hln,show xs.length+j-xs.length=j by omega]at e2;exact e2
   have e4:U[i]? =some (some v):=by
    unfold dI at e2';rw[gt,hi]at e2';have e5:U.getD i none=some v:=Option.some.inj e2';rw[List.getD_eq_getElem?_getD]at e5;cases e6:U[i]? with
    |none=>rw[e6]at e5;cases e5
    |some z=>rw[e6]at e5;exact congrArg some e5
   obtain⟨m,hn,hl⟩:=I.loc;obtain⟨u,r,l⟩:=hl i y v hN e4 (.inr (.inl k1));refine⟨u,r,.inr ⟨.inl k2,?_⟩⟩;rcases l with⟨hk,_⟩|⟨_,c,hc,o,ho,hd⟩
   .have hk':X.env.scope.names.lookup y=some .local:=hk;rw[k1]at hk';cases hk'
   .obtain⟨c',hc'⟩:=S.has y (.inl k2);have:=(S.sub y c' hc').symm.trans hc;cases this;exact⟨c,hc',o,keep c o ho,hd⟩
 .obtain⟨v,o,ho,hd⟩:=I.cell y c (S.sub y c h);exact⟨v,o,keep c o ho,hd⟩
 .obtain⟨e,n,ne,nf,d⟩:=I.pin p (by simpa[b6] using hp);exact⟨keep p.1 p.2 e,n,nb (sn e),stk p.1 ne nf,d⟩
 .show(jb xs++dI U sel).length=(xs++fr).length;unfold dI jb;simp[S.len]
def lD {elt iter tgt:Expr}{wi:TI}{tg:TG}{tc:TT}(hc:X.calm=true)(S:az X scope cl xs fr sel)(hi:PI X tgt iter wi)
  (hg:∀ (s:Shared) (H:Hp) (fp:List Addr),PG (b6 X scope cl (xs++fr) s H fp) tgt tg) (ht:∀ (s:Shared) (H:Hp) (fp:List Addr),xW (b6 X scope cl (xs++fr) s H fp) ifs tc)
  (he:∀ (s:Shared) (H:Hp) (fp:List Addr),PE (b6 X scope cl (xs++fr) s H fp) elt te) (hs:∀ x,foldedSetIterable iter X.env x=pure x):PE X (.ListComp elt [⟨tgt,iter,ifs,0⟩] scope pos) (wb wi tg tc te xs sel):=by
 intro Y s U H Q I h;rw[eval_ListComp];refine wpAny_comprehension_free (use:=none) rfl hs S.clos S.kind S.names ?_;refine ak (hi Y s U H _ I h) λv s1 h1=>ak h1 λitv s2 h2=>?_
 obtain⟨it,fp,tn,J,H2,e,I2,T,kg,f2,h2⟩:=h2;subst e;refine wpAny_newObj_type ?_;have hD:H2 s2.heap.objs.size=none:=I2.hok.fresh (nl _);have I3:Inv X Y U (upd H2 s2.heap.objs.size (.lst [])) { s2 with heap:=s2.heap.push { cls:=.type "list",dict:=none,data:=.seq ([]:List Value).toArray } }:=
  I2.laid (t':=s2.toks) (λb u e=>re _ e) (nl _) ⟨Nat.zero_le _,[],0,.nil,ss _ rfl⟩
 have fo2:∀ b ∈ fp,b<s2.heap.objs.size:=λb hb=>by
  obtain⟨o,ho,_⟩:=T.obj _ _ kg b hb;exact sn ho
 have f3:∀ b ∈ fp,ei X Y (upd H2 s2.heap.objs.size (.lst [])) b:=λb hb=>⟨by rw[ab (nb (fo2 b hb))];exact(f2 b hb).1,(f2 b hb).2⟩
 have st3:tn 0 (s2.heap.push { cls:=.type "list",dict:=none,data:=.seq ([]:List Value).toArray }):=T.keep _ _ _ kg λb hb o e=>re _ e
 have fo3:∀ b ∈ fp,b<(s2.heap.push { cls:=.type "list",dict:=none,data:=.seq ([]:List Value).toArray }).objs.size:=λb hb=>by
  rw[Heap.size_push];exact Nat.lt_succ_of_lt (fo2 b hb)
 obtain⟨W,⟨m0,w0⟩,turn⟩:=h2 _ hD;generalize s2.heap.objs.size=D at*;generalize hs3:({ s2 with heap:=s2.heap.push { cls:=.type "list",dict:=none,data:=.seq ([]:List Value).toArray } }:Shared)=s3 at*;have st3':tn 0 s3.heap:=by rw[<-hs3];exact st3
 have fo3':∀ b ∈ fp,b<s3.heap.objs.size:=by rw[<-hs3];exact fo3
 refine wpAny_newFunctionEnv S.nocell (by intro y hy;simp at hy) (λh' hns hsb=>?_) S.kind;have keep:∀ b o,s3.heap.get? b=some o->h'.get? b=some o:=λb o e=>(hsb.2 b (nb (sn e))).trans (re _ e)
 have I4:=ik (tk:=s3.toks+([]:List (Str×Value)).length) S I3 f3 fo3' hns keep;have st4:tn 0 h':=T.keep _ _ _ st3' λb hb o e=>keep b o e
 have stat:∀ {H':Hp},(∀ b ∈ fp,H' b=none)->∀ b ∈ fp,ei (b6 X scope cl (xs++fr) s3 (upd H2 D (.lst [])) fp) (X.pn++Y) H' b:=λ{H'} hn b hb=>
  ⟨hn b hb,nb (fo3' b hb),λz=>(le.mp (I3.c4 b z)).elim (f3 b hb).2.1 (f3 b hb).2.2.1,.inl hb,λy c hy=>(f3 b hb).2.2.2.2.1 y c (S.sub y c hy),λp hp=>(f3 b hb).2.2.2.2.2 p (by simpa[b6] using hp)⟩
 have loop:codeAny (model X.prog X.w) X.A (.compLoop (.ListComp elt [⟨tgt,iter,ifs,0⟩] scope pos) 0 (.ref it) (.ref D) (compEnvC scope cl s3.heap.objs.size X.env))
   (compPost (model X.prog X.w) X.A X.xe none (EP X Y U Q) (.ref D) s3.heap.objs.size) { s3 with heap:=h',toks:=s3.toks+([]:List (Str×Value)).length }:=by
  refine codeAny_loop rfl (λn s'=>∃ i σ' H',Inv (b6 X scope cl (xs++fr) s3 (upd H2 D (.lst [])) fp) (X.pn++Y) σ' H' s'/\tn i s'.heap/\(∀ b ∈ fp,H' b=none)/\W i n σ' H') (λn s5 hI=>?_) m0 ⟨0,_,_,I4,st4,λb hb=>(f3 b hb).1,w0⟩;show wpAny _ _ ((compTurn (.ListComp elt [⟨tgt,iter,ifs,0⟩] scope pos) 0 (.ref it) (.ref D) (compEnvC scope cl s3.heap.objs.size X.env)).onRaise (λx=>do noteFrame x (compEnvC scope cl s3.heap.objs.size X.env);theTreesLotGoes x)) _ _ s5;refine wpAny_noted ?_;refine j6 (ht s3 (upd H2 D (.lst [])) fp).1 ?_;obtain⟨i,σ5,H5,I5,st5,fr5,w5⟩:=hI;rcases turn i n σ5 H5 w5 with⟨stop,q⟩|⟨go,Nn,hN,step⟩
  .refine ak (T.done (b6 X scope cl (xs++fr) s3 (upd H2 D (.lst [])) fp) rfl rfl rfl hc i _ s5 σ5 H5 _ I5 (stat fr5) st5 stop) λr s6 ⟨hr,I6⟩=>?_
   subst hr;obtain⟨m,hn,_⟩:=I6.loc;refine⟨m,hn,λh'' hs''=>⟨.ref D,H5,I3.pq (ch:=fp) I6.os (I6.base.sameBut hs'' (nl _)) (λb ob e=>?_) I6.bare λb hb=>⟨(f3 b hb).2.2.2.1,(f3 b hb).2.1,(f3 b hb).2.2.2.2.1,(f3 b hb).2.2.2.2.2⟩,rfl,q⟩⟩;refine(I6.hok b ob e).cJ (λc w' hc' q'=>(hs''.2 c ?_).trans q') (λ_ q'=>q') λ_ _ q'=>q'
   have fC:H5 s3.heap.objs.size=none:=I6.free;intro z;rcases hc' with z2|z2
   .rw[z2]at z;rw[z,fC]at e;cases e
   .rw[z,fC]at z2;cases z2
  .have fin:∀ {σ8:St}{H10:Hp}{s10:Shared},Inv (b6 X scope cl (xs++fr) s3 (upd H2 D (.lst [])) fp) (X.pn++Y) σ8 H10 s10/\tn (i+1) s10.heap/\(∀ b ∈ fp,H10 b=none)->Nn σ8 H10->∃ m',m'<n/\∃ i σ' H',Inv (b6 X scope cl (xs++fr) s3 (upd H2 D (.lst [])) fp) (X.pn++Y) σ' H' s10/\tn i s10.heap/\(∀ b ∈ fp,H' b=none)/\W i m' σ' H':=λ⟨I,t,f⟩ nn=>by
    obtain⟨m',hm,w10⟩:=hN _ _ nn;exact⟨m',hm,i+1,_,_,I,t,f,w10⟩
   refine ak (T.item (b6 X scope cl (xs++fr) s3 (upd H2 D (.lst [])) fp) rfl rfl rfl hc i _ s5 σ5 H5 _ I5 (stat fr5) st5 go) λr s6 ⟨u,hr,h6⟩=>?_
   subst hr;refine ak h6 λ_ s7 ⟨xv,H7,I7,r7,y7,st7,fr7⟩=>?_
   have I7':=I7.pinned (stat fr7) (T.obj _ _ st7);refine r6 (hg s3 _ fp _ s7 σ5 H7 xv u _ I7' r7 (step xv _ y7)) λ_ s8 ⟨σ8,H8,I8,q8⟩=>?_
   refine r6 ((ht s3 _ fp).2 _ s8 σ8 H8 _ I8 q8) λok s9 ⟨H9,I9,q9⟩=>?_
   have back:∀ {H10:Hp}{s10:Shared},Inv (b6 X scope cl (xs++fr) s3 (upd H2 D (.lst [])) fp) _ σ8 H10 s10->Inv (b6 X scope cl (xs++fr) s3 (upd H2 D (.lst [])) fp) (X.pn++Y) σ8 H10 s10/\tn (i+1) s10.heap/\(∀ b ∈ fp,H10 b=none):=λ{H10 s10} I10=>⟨I10.bK,T.keep _ _ _ st7 λb hb o e=>(I10.pin (b,o) (ge _ (ge _ (aF hb e)))).1,λb hb=>by
    obtain⟨o,e,d⟩:=T.obj _ _ st7 b hb;exact(I10.pin (b,o) (ge _ (ge _ (aF hb e)))).2.1⟩
   refine⟨λek=>?_,λek=>am ⟨rfl,fin (back I9) (q9.2 ek)⟩⟩;refine r6 (he s3 _ fp _ s9 _ _ _ I9 (q9.1 ek)) λuv s10 ⟨vv,H10,I10,r10,zs,hz,hzl,n10⟩=>?_
   refine r6 (dr (X:=b6 X scope cl (xs++fr) s3 (upd H2 D (.lst [])) fp) _ s10 _ H10 (.ref D) [vv] (.ref D) [uv] (λ_ H'=>H'=upd H10 D (.lst (zs++[vv]))) I10 rfl (.cons r10 .nil) ⟨D,zs,vv,rfl,rfl,hz,hzl,rfl⟩) λ_ s11 ⟨_,H11,I11,_,e11⟩=>?_
   subst e11;exact am ⟨rfl,fin (back I11) n10⟩
 exact codeAny_compStart_list loop (T.self _ 0 _ _ _ st4 loop)
def jh {x:Str}{px:Pos}{H:Hp}(S:az X scope cl [x] fr sel):PG (b6 X scope cl ([x]++fr) s H fp) (.Name x px) (cW 0):=cN S.nd rfl (.inl (lookup_relabel_local (S.own x (jp ..)))) (.inr (lookup_relabel_local (S.own x (jp ..))))
abbrev zV (wi:TI):TI:=λU H R=>∃ R0:It->Hp->Prop,wi U H R0/\∀ J H,R0 J H->R J H
def PI.up {tg iter:Expr}{wi:TI}(h:PI X tg iter wi):PI X tg iter (zV wi):=λY s U H R I ⟨R0,q,m⟩=>
 ak (h Y s U H R0 I q) λv s1 h1=>wpAny_mono h1 (λitv s2 ⟨it,fp,tn,J,H',e,I,T,t0,f,r⟩=>⟨it,fp,tn,J,H',e,I,T,t0,f,m _ _ r⟩) λ_ _ e=>e
def nh {elt iter:Expr}{x:Str}{px:Pos}{wi:TI}(hc:X.calm=true)(S:az X scope cl [x] fr sel)(hi:PI X (.Name x px) iter wi)
  (he:∀ (s:Shared) (H:Hp) (fp:List Addr),PE (b6 X scope cl (x::fr) s H fp) elt te) (hs:∀ x,foldedSetIterable iter X.env x=pure x):PE X (.ListComp elt [⟨.Name x px,iter,[],0⟩] scope pos) (zx wi te sel):=λY s U H Q I h=>
 lD (tg:=cW 0) hc S hi.up (λs H fp=>jh S) (λ_ _ _=>gJ) he hs Y s U H Q I ⟨_,h,λ_ _ q=>q.g⟩
end
section
variable {U:St}{H:Hp}{Q:VK}{te tl:TE}{ta:TA}{sel:List Nat}{σ₀ rest:St}{K:W.Frag}
end
def bp {env:Env}:∀ {names:List (Str×NameKind)}{y:Str}{k':NameKind},(names.map λ(n,k)=>if(k ==NameKind.free&&env.scope.kind ==.function&&env.kindOf n ==some .cell) then(n,NameKind.cell) else(n,k)).lookup y=some k'->∃ k,(y,k) ∈ names/\(k'=k\/(k=.free/\k'=.cell))
 | [],_,_,h=>by simp at h
 |(n,k)::r,y,k',h=>by
  rw[map_cons,lookup_cons]at h
  by_cases hc:(k ==NameKind.free&&env.scope.kind ==.function&&env.kindOf n ==some .cell)=true
  .simp only[hc,if_true]at h
   by_cases e:y=n
   .subst e;simp at h;simp at hc;exact⟨k,jp,.inr ⟨hc.1.1,h.symm⟩⟩
   .rw[show(y ==n)=false from beq_eq_false_iff_ne.mpr e]at h;obtain⟨k2,m,q⟩:=bp (env:=env) h;exact⟨k2,db _ m,q⟩
  .rw[Bool.not_eq_true]at hc;simp only[hc,Bool.false_eq_true,if_false]at h
   by_cases e:y=n
   .subst e;simp at h;exact⟨k,jp,.inl h.symm⟩
   .simp only[show(y ==n)=false from beq_eq_false_iff_ne.mpr e]at h;obtain⟨k2,m,q⟩:=bp (env:=env) h;exact⟨k2,db _ m,q⟩
section
variable {K:W.Frag}
end
section
variable {K:W.Frag}{H:Hp}
end
section
variable {U:St}{H:Hp}{Q:VK}
end
abbrev notStar:Expr->Bool
 | .Starred ..=>false
 |_=>true
variable {es:List Expr}
def aa {e:Expr}{env:Env}(h:notStar e=true):bi (e::es) env=(false,eval e env)::bi es env:=by
 cases e<;>first|rfl|cases h
def jT {e:Expr}{t:TA}(ha:PE X e te)(hr:PA X es t)(h:notStar e=true:=by rfl):PA X (e::es) (tj te t):=qJ ha hr (aa h)
section
variable {X:Cx}{Y:AE}{U:St}{H:Hp}{s:Shared}{h':Heap}
end
section
variable {g:TG}{tb:TS}{D:Ends}{U:St}{H:Hp}{ta:TA}
end
section
variable {X:Cx}
end
section
variable {K:W.Frag}{r:V->List V->Hp->VK->Prop}{to:TE}{t:TA}{U:St}{H:Hp}{Q:VK}
end
section
variable {H H1 H2:Hp}{p h c:Addr}{o:HO}{m:Int}
end
section
variable {H H':Hp}{xs ys:List V}{f:Nat->Int×Int}
end
section
variable {X:Cx}{a b c d:Expr}{ta tb tc td:TE}{pos:Pos}
end
section
variable {K:W.Frag}{U:St}{H:Hp}{Q:VK}{ta tb tc td tv:TE}{t:TA}{f m:Str}{D:Ends}{C:Addr}{sp:Sp}{dvs:List V}{E:XK}
end
section
variable {g:TG}{tb:TS}{D:Ends}{U:St}{H:Hp}{ta:TA}
end
section
variable {C:Addr}{H H':Hp}{S D h c:Addr}{rs:List Rec}{r:Rec}
end
section
variable {X:Cx}
end
end L2
namespace L2
end L2
namespace L2
open PySem PySem.Spec PyProof.Rows
section
variable {C:Addr}{H HF:Hp}{S D h c:Addr}{rs:List Rec}{r':Rec}
end
section
variable {X:Cx}
end
structure yE (K:W.Frag) (C:Addr):Prop where
 ha:W.findIn K (.ref C) "__class__"=some (some (.builtin "object.__class__"))
 hn:W.specialIn K (.builtin "object.__class__") "__get__"=some (some (.builtin "getset_descriptor.__get__"))
 htk:W.takesIn K (.builtin "object.__class__")=some true
 hm:W.mroIn K C (.type "object")=some true
end L2
namespace L2
open PySem PySem.Spec PySem.W PyProof.Rows
abbrev aD (tp:Bool)(h:Heap)(j b:Addr)(k:Nat):Prop:=match tp with
 |true=>h.IsTupleIter j b k
 |false=>h.IsListIter j b k
abbrev aX (tp:Bool)(h:Heap)(b:Addr)(xs:Array Value):Prop:=match tp with
 |true=>h.IsTuple b xs
 |false=>h.IsList b xs
variable {tp:Bool}{h:Heap}{b:Addr}{k:Nat}
def aD.to {h':Heap}{j:Addr}(g:aD tp h j b k)(e:∀ o,h.get? j=some o->h'.get? j=some o):aD tp h' j b k:=by
 cases tp
 .obtain⟨o,e1,r⟩:=(show h.IsListIter j b k from g);exact⟨o,e o e1,r⟩
 .obtain⟨o,e1,r⟩:=(show h.IsTupleIter j b k from g);exact⟨o,e o e1,r⟩
variable {xs:Array Value}
def aX.to {h':Heap}(g:aX tp h b xs)(e:∀ o,h.get? b=some o->h'.get? b=some o):aX tp h' b xs:=by
 cases tp
 .obtain⟨o,e1,r⟩:=(show h.IsList b xs from g);exact⟨o,e o e1,r⟩
 .obtain⟨o,e1,r⟩:=(show h.IsTuple b xs from g);exact⟨o,e o e1,r⟩
def aD.lt {j:Addr}(g:aD tp h j b k):j<h.objs.size:=by
 cases tp
 .obtain⟨o,e1,r⟩:=(show h.IsListIter j b k from g);exact sn e1
 .obtain⟨o,e1,r⟩:=(show h.IsTupleIter j b k from g);exact sn e1
def aX.lt (g:aX tp h b xs):b<h.objs.size:=by
 cases tp
 .obtain⟨o,e1,r⟩:=(show h.IsList b xs from g);exact sn e1
 .obtain⟨o,e1,r⟩:=(show h.IsTuple b xs from g);exact sn e1
variable {Q:Option Value->Shared->Prop}{T:Int}{fb:Bool}{oT:Obj}
section
variable {prog:Program}{w:World}{A:Around}{E:AD}{s:Shared}
def vo {j:Addr}{x:Value}{Q:AD}(g:s.heap.IsTupleIter j b k)(t:s.heap.IsTuple b xs)(hx:xs[k]? =some x)
  (q:∀ h',h'.IsTupleIter j b (k+1)->Heap.SameBut j s.heap h'->Q x { s with heap:=h' }):wpAny (model prog w) A (Builtin.SmallTypes.nextOf (.ref j)) Q E s:=by
 obtain⟨o1,e1,c1,d1⟩:=id g;obtain⟨o2,e2,_,n2,d2⟩:=t;unfold Builtin.SmallTypes.nextOf;refine ad (wpAny_callSpecial?_slot (name:=Str.ofString "__next__") g.typeIs F.slot_tuple_iterator_next (wpAny_call_entry F.slot_tuple_iterator_next g.typeIs F.entry_tuple_iterator_next ?_ (F.args_tuple_iterator_next_1 _)));show wpAny _ _ (field (.ref j) 0 >>= _) _ _ s;refine ad (ap e1 d1 (x:=.ref b) rfl ?_);show wpAny _ _ (if(Value.ref b ==Value.none)=true then _ else _) _ _ s;rw[if_neg (show ¬ ((Value.ref b ==Value.none)=true) from Bool.false_ne_true)];show wpAny _ _ (field (.ref j) 1 >>= _) _ _ s;refine ad (ap e1 d1 (x:=.int k 0) rfl ?_);show wpAny _ _ (seqItems? (.ref b) >>= _) _ _ s;refine ad (wpAny_seqItems e2 d2 ?_);simp only[ol,hx];refine ad (wpAny_setField e1 d1 (by simp) (am ⟨x,rfl,am (q _ ?_ (Heap.SameBut.update ..))⟩));refine⟨_,Heap.get?_update_self _ e1 (Obj.isFreed_of_fields (Obj.data_mapFields d1 _)),(Obj.cls_mapFields ..).trans c1,?_⟩;rw[Obj.data_mapFields d1];simp[rawInt]
def rA {j:Addr}{Q:AD}(hh:A.handled=none)(g:s.heap.IsTupleIter j b k)(t:s.heap.IsTuple b xs)(hx:xs[k]? =none)
  (q:∀ h' e,Heap.ExtBut j s.heap h'->(∃ o,h'.get? e=some o/\o.cls=.type "StopIteration")->E (.ref e) { s with heap:=h' }):wpAny (model prog w) A (Builtin.SmallTypes.nextOf (.ref j)) Q E s:=by
 obtain⟨o1,e1,c1,d1⟩:=id g;obtain⟨o2,e2,_,n2,d2⟩:=t;unfold Builtin.SmallTypes.nextOf;refine ad (wpAny_callSpecial?_slot (name:=Str.ofString "__next__") g.typeIs F.slot_tuple_iterator_next (wpAny_call_entry F.slot_tuple_iterator_next g.typeIs F.entry_tuple_iterator_next ?_ (F.args_tuple_iterator_next_1 _)));show wpAny _ _ (field (.ref j) 0 >>= _) _ _ s;refine ad (ap e1 d1 (x:=.ref b) rfl ?_);show wpAny _ _ (if(Value.ref b ==Value.none)=true then _ else _) _ _ s;rw[if_neg (show ¬ ((Value.ref b ==Value.none)=true) from Bool.false_ne_true)];show wpAny _ _ (field (.ref j) 1 >>= _) _ _ s;refine ad (ap e1 d1 (x:=.int k 0) rfl ?_);show wpAny _ _ (seqItems? (.ref b) >>= _) _ _ s;refine ad (wpAny_seqItems e2 d2 ?_);simp only[ol,hx];refine ad (wpAny_rule (ad (wpAny_setField e1 d1 (by simp) ?_)));show wpAny _ _ (newExc (.type "StopIteration") [] >>= _) _ _ _;refine ad ?_;simp only[newExc,newTuple];refine ad (wpAny_newObj_type ?_ (by size_fits));refine ad (m:=firstArgMember _ _) (wpAny_of_eq (a:=Value.none) (by first|rfl|(simp only[firstArgMember];rfl)) ?_);refine wpAny_newObj_type ?_ (by size_fits);simp only[raiseNew];refine ad (wpAny_handled ?_);first|rw[show A.in1.handled=none from hh]|rw[hh]
 refine ad (am (wpAny_throw ?_));exact q _ _ (((Heap.SameBut.update ..).extBut.push _).push _) ⟨_,ss _ rfl,rfl⟩
def bU {j:Addr}{x:Value}{Q:AD}(g:aD tp s.heap j b k)(t:aX tp s.heap b xs)(hx:xs[k]? =some x)
  (q:∀ h',aD tp h' j b (k+1)->Heap.SameBut j s.heap h'->Q x { s with heap:=h' }):wpAny (model prog w) A (Builtin.SmallTypes.nextOf (.ref j)) Q E s:=by
 cases tp
 .exact wpAny_nextOf_list_item g t hx q
 .exact vo g t hx q
def gW {j:Addr}{Q:AD}(hh:A.handled=none)(g:aD tp s.heap j b k)(t:aX tp s.heap b xs)(hx:xs[k]? =none)
  (q:∀ h' e,Heap.ExtBut j s.heap h'->(∃ o,h'.get? e=some o/\o.cls=.type "StopIteration")->E (.ref e) { s with heap:=h' }):wpAny (model prog w) A (Builtin.SmallTypes.nextOf (.ref j)) Q E s:=by
 cases tp
 .exact wpAny_nextOf_list_end hh g t hx q
 .exact rA hh g t hx q
@[reducible]def aY (h:Heap) (z TI TO:Addr) (f0 f1:Value):Prop:=h.get? z=some { cls:=.type "zip",dict:=none,data:=.fields #[f0,f1,.bool false,.ref TI,.ref TO],slots:=#[] }
variable {z TI TO i1 i2 l1 l2:Addr}{k1 k2:Nat}{tp1 tp2:Bool}{xs ys:Array Value}{x y a b f1:Value}
def qk (D:ZipApart z TI TO i1 i2 l1 l2)(hz:aY s.heap z TI TO .none f1)(hI:IsPair s.heap TI (.ref i1) (.ref i2))(hO:IsPair s.heap TO a b)
  (g1:aD tp1 s.heap i1 l1 k1) (g2:aD tp2 s.heap i2 l2 k2) (t1:aX tp1 s.heap l1 xs) (t2:aX tp2 s.heap l2 ys) (hx:xs[k1]? =some x) (hy:ys[k2]? =some y)
  (q:∀ h',aY h' z TI TO (rawInt s.heap.objs.size) (.bool false)->IsPair h' TO x y->aD tp1 h' i1 l1 (k1+1)->aD tp2 h' i2 l2 (k2+1)->IsPair h' s.heap.objs.size x y->h'.objs.size=s.heap.objs.size+1->
   (∀ c o,c≠z->c≠TO->c≠i1->c≠i2->s.heap.get? c=some o->h'.get? c=some o)->Q (some (.ref s.heap.objs.size)) { s with heap:=h' }):wpAny (model prog w) A (pyNext (.ref z)) Q E s:=by
 have hZ:s.TypeIs (.ref z) "zip":=⟨_,hz,rfl⟩;unfold pyNext;refine ad (wpAny_attempt (wpAny_callSpecial?_slot (name:=Str.ofString "__next__") hZ F.slot_zip_next (wpAny_call_entry F.slot_zip_next hZ F.entry_zip_next ?_ (F.args_zip_next_1 _))));show wpAny _ _ (field (.ref z) 2 >>= _) _ _ _;refine ad (ap (x:=.bool false) hz rfl rfl ?_);show wpAny _ _ (field (.ref z) 3 >>= _) _ _ _;refine ad (ap (x:=.ref TI) hz rfl rfl ?_);refine ad (wpAny_seqItems hI rfl ?_);show wpAny _ _ (Builtin.SmallTypes.ownedTupleIsFree (.ref z) >>= _) _ _ _;refine ad ?_;unfold Builtin.SmallTypes.ownedTupleIsFree;refine ad (ap (x:=.none) hz rfl rfl (am ?_));simp only[if_true];refine ad (wpAny_rule ?_);refine ad (ap (x:=.ref TO) hz rfl rfl ?_);refine ad (wpAny_setField_rec hz (by simp) λp1 z1 b1=>?_)
 replace z1:aY p1 z TI TO .ellipsis f1:=z1
 refine ad ?_;simp only[List.zipIdx_cons,List.zipIdx_nil,forIn_cons,forIn_nil];refine ad (ad (wpAny_onRaise ?_));show wpAny _ _ (Builtin.SmallTypes.nextOf (.ref i1) >>= _) _ _ _;refine ad (bU (g1.to λo e=>b1.extBut _ o D.i1z e) (t1.to λo e=>b1.extBut _ o D.l1z e) hx λp2 g1b b2=>am ?_);have hO2:IsPair p2 TO a b:=b2.extBut _ _ D.TOi1 (b1.extBut _ _ D.TOz hO);refine ad (wpAny_seqItems hO2 rfl ?_);refine ad (wpAny_updateSeq_pair hO2 λp3 hO3 b3=>?_)
 replace hO3:IsPair p3 TO x b:=hO3
 refine ad (wpAny_letGo (am ?_));refine ad (ad (wpAny_onRaise ?_));show wpAny _ _ (Builtin.SmallTypes.nextOf (.ref i2) >>= _) _ _ _;refine ad (bU (g2.to λo e=>b3.extBut _ o D.TOi2.symm (b2.extBut _ o D.i12.symm (b1.extBut _ o D.i2z e))) (t2.to λo e=>b3.extBut _ o D.l2TO (b2.extBut _ o D.l2i1 (b1.extBut _ o D.l2z e))) hy λp4 g2b b4=>am ?_);have hO4:IsPair p4 TO x b:=b4.extBut _ _ D.TOi2 hO3;refine ad (wpAny_seqItems hO4 rfl ?_);refine ad (wpAny_updateSeq_pair hO4 λp5 hO5 b5=>?_)
 replace hO5:IsPair p5 TO x y:=hO5
 refine ad (wpAny_letGo (am (am ?_)));refine ad (wpAny_seqItems hO5 rfl ?_);refine ad (wpAny_newTuple ?_);have hsz:p5.objs.size=s.heap.objs.size:=by rw[b5.1,b4.1,b3.1,b2.1,b1.1]
 have z5:aY p5 z TI TO .ellipsis f1:=b5.extBut _ _ D.TOz.symm (b4.extBut _ _ D.i2z.symm (b3.extBut _ _ D.TOz.symm (b2.extBut _ _ D.i1z.symm z1)));have k5:∀ c o,c≠z->c≠TO->c≠i1->c≠i2->s.heap.get? c=some o->p5.get? c=some o:=λc o n1 n2 n3 n4 e=>b5.extBut _ _ n2 (b4.extBut _ _ n4 (b3.extBut _ _ n2 (b2.extBut _ _ n3 (b1.extBut _ _ n1 e))))
 have g15:aD tp1 p5 i1 l1 (k1+1):=g1b.to λo e=>b5.extBut _ o D.TOi1.symm (b4.extBut _ o D.i12 (b3.extBut _ o D.TOi1.symm e))
 have g25:aD tp2 p5 i2 l2 (k2+1):=g2b.to λo e=>b5.extBut _ o D.TOi2.symm e
 have zlt:z<p5.objs.size:=sn z5;show wpAny _ _ (Builtin.SmallTypes.ownedTupleHandOut (.ref z) (.ref p5.objs.size) >>= _) _ _ _;refine ad ?_;unfold Builtin.SmallTypes.ownedTupleHandOut;have z6:aY (p5.push { cls:=.type "tuple",data:=.seq #[x,y] }) z TI TO .ellipsis f1:=re _ z5;refine ad (wpAny_setField_rec z6 (by simp) λp7 z7 b7=>?_)
 replace z7:aY p7 z TI TO (rawInt p5.objs.size) f1:=z7
 refine wpAny_setField_rec z7 (by simp) λp8 z8 b8=>?_
 replace z8:aY p8 z TI TO (rawInt p5.objs.size) (.bool false):=z8
 have up:∀ c o,c≠z->p5.get? c=some o->p8.get? c=some o:=λc o n1 e=>b8.extBut _ _ n1 (b7.extBut _ _ n1 (re _ e))
 have hT:IsPair p8 p5.objs.size x y:=b8.extBut _ _ (Nat.ne_of_gt zlt) (b7.extBut _ _ (Nat.ne_of_gt zlt) (ss _ rfl));have h8:p8.objs.size=p5.objs.size+1:=by rw[b8.1,b7.1,Heap.size_push]
 rw[hsz]at z8 hT h8;refine am ⟨_,rfl,?_⟩;rw[hsz];exact am (q p8 z8 (up _ _ D.TOz hO5) (g15.to λo e=>up _ o D.i1z e) (g25.to λo e=>up _ o D.i2z e) hT h8 λc o n1 n2 n3 n4 e=>up c o n1 (k5 c o n1 n2 n3 n4 e))
def ur {Q:Fin->Shared->Prop}(hh:A.handled=none)(D:ZipApart z TI TO i1 i2 l1 l2)(hz:aY s.heap z TI TO .none f1)(hI:IsPair s.heap TI (.ref i1) (.ref i2))(hO:IsPair s.heap TO a b)
  (g1:aD tp1 s.heap i1 l1 k1) (g2:aD tp2 s.heap i2 l2 k2) (t1:aX tp1 s.heap l1 xs) (t2:aX tp2 s.heap l2 ys) (hx:xs[k1]? =none\/ys[k2]? =none)
  (q:∀ h' e,(∀ c o,c≠z->c≠TO->c≠i1->c≠i2->s.heap.get? c=some o->h'.get? c=some o)->(∃ o,h'.get? e=some o/\o.cls=.type "StopIteration")->E (.ref e) { s with heap:=h' }):
  wpAny (model prog w) A (Builtin.«zip.__next__» ⟨[.ref z],[]⟩) Q E s:=by
 show wpAny _ _ (field (.ref z) 2 >>= _) _ _ _;refine ad (ap (x:=.bool false) hz rfl rfl ?_);show wpAny _ _ (field (.ref z) 3 >>= _) _ _ _;refine ad (ap (x:=.ref TI) hz rfl rfl ?_);refine ad (wpAny_seqItems hI rfl ?_);show wpAny _ _ (Builtin.SmallTypes.ownedTupleIsFree (.ref z) >>= _) _ _ _;refine ad ?_;unfold Builtin.SmallTypes.ownedTupleIsFree;refine ad (ap (x:=.none) hz rfl rfl (am ?_));simp only[if_true];refine ad (wpAny_rule ?_);refine ad (ap (x:=.ref TO) hz rfl rfl ?_);refine ad (wpAny_setField_rec hz (by simp) λp1 z1 b1=>?_)
 replace z1:aY p1 z TI TO .ellipsis f1:=z1
 refine ad ?_;simp only[List.zipIdx_cons,List.zipIdx_nil,forIn_cons,forIn_nil];refine ad (ad (wpAny_onRaise ?_));show wpAny _ _ (Builtin.SmallTypes.nextOf (.ref i1) >>= _) _ _ _;cases e1:xs[k1]? with
 |none=>
  refine ad (gW hh (g1.to λo e=>b1.extBut _ o D.i1z e) (t1.to λo e=>b1.extBut _ o D.l1z e) e1 λp2 e b2 he=>?_);obtain⟨oe,ho,hc⟩:=he;have z2:aY p2 z TI TO .ellipsis f1:=b2 _ _ D.i1z.symm z1;have ne:e≠z:=λn=>by subst n;rw[z2]at ho;cases ho;simp at hc
  exact wpAny_setField_rec z2 (by simp) λp3 _ b3=>q p3 e (λc o n1 _ n3 _ v=>b3.extBut _ _ n1 (b2 _ _ n3 (b1.extBut _ _ n1 v))) ⟨oe,b3.extBut _ _ ne ho,hc⟩
 |some x=>
  have e2:ys[k2]? =none:=by rcases hx with h|h;(rw[e1]at h;cases h);exact h
  refine ad (bU (g1.to λo e=>b1.extBut _ o D.i1z e) (t1.to λo e=>b1.extBut _ o D.l1z e) e1 λp2 g1b b2=>am ?_);have hO2:IsPair p2 TO a b:=b2.extBut _ _ D.TOi1 (b1.extBut _ _ D.TOz hO);refine ad (wpAny_seqItems hO2 rfl ?_);refine ad (wpAny_updateSeq_pair hO2 λp3 hO3 b3=>?_);refine ad (wpAny_letGo (am ?_));refine ad (ad (wpAny_onRaise ?_));show wpAny _ _ (Builtin.SmallTypes.nextOf (.ref i2) >>= _) _ _ _;refine ad (gW hh (g2.to λo e=>b3.extBut _ o D.TOi2.symm (b2.extBut _ o D.i12.symm (b1.extBut _ o D.i2z e))) (t2.to λo e=>b3.extBut _ o D.l2TO (b2.extBut _ o D.l2i1 (b1.extBut _ o D.l2z e))) e2 λp4 e b4 he=>?_);obtain⟨oe,ho,hc⟩:=he;have z4:aY p4 z TI TO .ellipsis f1:=b4 _ _ D.i2z.symm (b3.extBut _ _ D.TOz.symm (b2.extBut _ _ D.i1z.symm z1));have ne:e≠z:=λn=>by subst n;rw[z4]at ho;cases ho;simp at hc
  exact wpAny_setField_rec z4 (by simp) λp5 _ b5=>q p5 e (λc o n1 n2 n3 n4 v=>b5.extBut _ _ n1 (b4 _ _ n4 (b3.extBut _ _ n2 (b2.extBut _ _ n3 (b1.extBut _ _ n1 v))))) ⟨oe,b5.extBut _ _ ne ho,hc⟩
def ij {c:Addr}{Q:Option Obj->Shared->Prop}(h:Q (s.heap.get? c) s):wpAny (model prog w) A (loadIfAlive c) Q E s:=λ_ _ _=>h
variable {t:Tok}
def i6 {Q:Bool->Shared->Prop}(hz:aY s.heap z TI TO (.int T t) (.bool fb))(hT:s.heap.get? T.toNat=some oT)(q:∀ h',aY h' z TI TO (.int T t) (.bool true)->Heap.SameBut z s.heap h'->Q false { s with heap:=h' }):
  wpAny (model prog w) A (Builtin.SmallTypes.ownedTupleIsFree (.ref z)) Q E s:=by
 unfold Builtin.SmallTypes.ownedTupleIsFree;refine ad (ap (x:=.int T t) hz rfl rfl ?_);refine ad (ij ?_);rw[hT];refine ad (ap (x:=.bool fb) hz rfl rfl ?_);cases fb
 .refine ad (wpAny_setField_rec hz (by simp) λp1 z1 b1=>am ?_);exact q p1 z1 b1
 .exact ad (am (am (q s.heap hz (Heap.SameBut.refl ..))))
def qE (D:ZipApart z TI TO i1 i2 l1 l2)(hz:aY s.heap z TI TO (.int T t) (.bool fb))(hT:s.heap.get? T.toNat=some oT)(hI:IsPair s.heap TI (.ref i1) (.ref i2))
  (g1:aD tp1 s.heap i1 l1 k1) (g2:aD tp2 s.heap i2 l2 k2) (t1:aX tp1 s.heap l1 xs) (t2:aX tp2 s.heap l2 ys) (hx:xs[k1]? =some x) (hy:ys[k2]? =some y)
  (q:∀ h',aY h' z TI TO (.int T t) (.bool true)->aD tp1 h' i1 l1 (k1+1)->aD tp2 h' i2 l2 (k2+1)->IsPair h' s.heap.objs.size x y->h'.objs.size=s.heap.objs.size+1->
   (∀ c o,c≠z->c≠i1->c≠i2->s.heap.get? c=some o->h'.get? c=some o)->Q (some (.ref s.heap.objs.size)) { s with heap:=h' }):wpAny (model prog w) A (pyNext (.ref z)) Q E s:=by
 have hZ:s.TypeIs (.ref z) "zip":=⟨_,hz,rfl⟩;unfold pyNext;refine ad (wpAny_attempt (wpAny_callSpecial?_slot (name:=Str.ofString "__next__") hZ F.slot_zip_next (wpAny_call_entry F.slot_zip_next hZ F.entry_zip_next ?_ (F.args_zip_next_1 _))));show wpAny _ _ (field (.ref z) 2 >>= _) _ _ _;refine ad (ap (x:=.bool false) hz rfl rfl ?_);show wpAny _ _ (field (.ref z) 3 >>= _) _ _ _;refine ad (ap (x:=.ref TI) hz rfl rfl ?_);refine ad (wpAny_seqItems hI rfl ?_);show wpAny _ _ (Builtin.SmallTypes.ownedTupleIsFree (.ref z) >>= _) _ _ _;refine ad (i6 hz hT λp1 z1 b1=>?_);simp only[Bool.false_eq_true,if_false];simp only[List.forIn_toArray,forIn_cons,forIn_nil];refine ad (ad (ad (bd ?_)));show wpAny _ _ (Builtin.SmallTypes.nextOf (.ref i1) >>= _) _ _ _;refine ad (bU (g1.to λo e=>b1.extBut _ o D.i1z e) (t1.to λo e=>b1.extBut _ o D.l1z e) hx λp2 g1b b2=>am (am ?_));dsimp only;refine ad (ad (bd ?_));show wpAny _ _ (Builtin.SmallTypes.nextOf (.ref i2) >>= _) _ _ _;refine ad (bU (g2.to λo e=>b2.extBut _ o D.i12.symm (b1.extBut _ o D.i2z e)) (t2.to λo e=>b2.extBut _ o D.l2i1 (b1.extBut _ o D.l2z e)) hy λp3 g2b b3=>am (am (am ?_)));dsimp only;refine ad (wpAny_newTuple ?_ (hsz:=fits (mo rfl)));have hsz:p3.objs.size=s.heap.objs.size:=by rw[b3.1,b2.1,b1.1]
 refine am ⟨_,rfl,?_⟩;have z3:aY p3 z TI TO (.int T t) (.bool true):=b3.extBut _ _ D.i2z.symm (b2.extBut _ _ D.i1z.symm z1);rw[hsz];refine am (q _ (re _ z3) (g1b.to λo e=>re _ (b3.extBut _ o D.i12 e)) (g2b.to λo e=>re _ e) (by rw[<-hsz];exact ss _ rfl) (by rw[Heap.size_push,hsz]) λc o n1 n2 n3 e=>?_);exact re _ (b3.extBut _ _ n3 (b2.extBut _ _ n2 (b1.extBut _ _ n1 e)))
def nN {Q:Fin->Shared->Prop}(hh:A.handled=none)(D:ZipApart z TI TO i1 i2 l1 l2)(hz:aY s.heap z TI TO (.int T t) (.bool fb))(hT:s.heap.get? T.toNat=some oT)(hI:IsPair s.heap TI (.ref i1) (.ref i2))
  (g1:aD tp1 s.heap i1 l1 k1) (g2:aD tp2 s.heap i2 l2 k2) (t1:aX tp1 s.heap l1 xs) (t2:aX tp2 s.heap l2 ys) (hx:xs[k1]? =none\/ys[k2]? =none)
  (q:∀ h' e,(∀ c o,c≠z->c≠i1->c≠i2->s.heap.get? c=some o->h'.get? c=some o)->(∃ o,h'.get? e=some o/\o.cls=.type "StopIteration")->E (.ref e) { s with heap:=h' }):
  wpAny (model prog w) A (Builtin.«zip.__next__» ⟨[.ref z],[]⟩) Q E s:=by
 show wpAny _ _ (field (.ref z) 2 >>= _) _ _ _;refine ad (ap (x:=.bool false) hz rfl rfl ?_);show wpAny _ _ (field (.ref z) 3 >>= _) _ _ _;refine ad (ap (x:=.ref TI) hz rfl rfl ?_);refine ad (wpAny_seqItems hI rfl ?_);show wpAny _ _ (Builtin.SmallTypes.ownedTupleIsFree (.ref z) >>= _) _ _ _;refine ad (i6 hz hT λp1 z1 b1=>?_);simp only[Bool.false_eq_true,if_false];simp only[List.forIn_toArray,forIn_cons,forIn_nil];refine ad (ad (ad (bd ?_)));show wpAny _ _ (Builtin.SmallTypes.nextOf (.ref i1) >>= _) _ _ _;cases e1:xs[k1]? with
 |none=>exact ad (gW hh (g1.to λo e=>b1.extBut _ o D.i1z e) (t1.to λo e=>b1.extBut _ o D.l1z e) e1 λp2 e b2 he=>q p2 e (λc o n1 n2 n3 v=>b2 _ _ n2 (b1.extBut _ _ n1 v)) he)
 |some x=>
  have e2:ys[k2]? =none:=by rcases hx with h|h;(rw[e1]at h;cases h);exact h
  refine ad (bU (g1.to λo e=>b1.extBut _ o D.i1z e) (t1.to λo e=>b1.extBut _ o D.l1z e) e1 λp2 g1b b2=>am (am ?_));dsimp only;refine ad (ad (bd ?_));show wpAny _ _ (Builtin.SmallTypes.nextOf (.ref i2) >>= _) _ _ _;exact ad (gW hh (g2.to λo e=>b2.extBut _ o D.i12.symm (b1.extBut _ o D.i2z e)) (t2.to λo e=>b2.extBut _ o D.l2i1 (b1.extBut _ o D.l2z e)) e2 λp4 e b4 he=>q p4 e (λc o n1 n2 n3 v=>b4 _ _ n3 (b2.extBut _ _ n2 (b1.extBut _ _ n1 v))) he)
def tO (hh:A.handled=none)(D:ZipApart z TI TO i1 i2 l1 l2)(hz:aY s.heap z TI TO .none f1)(hI:IsPair s.heap TI (.ref i1) (.ref i2))(hO:IsPair s.heap TO a b)
  (g1:aD tp1 s.heap i1 l1 k1) (g2:aD tp2 s.heap i2 l2 k2) (t1:aX tp1 s.heap l1 xs) (t2:aX tp2 s.heap l2 ys) (hx:xs[k1]? =none\/ys[k2]? =none)
  (q:∀ h',(∀ c o,c≠z->c≠TO->c≠i1->c≠i2->s.heap.get? c=some o->h'.get? c=some o)->Q none { s with heap:=h' }):wpAny (model prog w) A (pyNext (.ref z)) Q E s:=by
 have hT:s.TypeIs (.ref z) "zip":=⟨_,hz,rfl⟩;unfold pyNext;refine ad (wpAny_attempt (wpAny_callSpecial?_slot (name:=Str.ofString "__next__") hT F.slot_zip_next (wpAny_call_entry F.slot_zip_next hT F.entry_zip_next (ur hh D hz hI hO g1 g2 t1 t2 hx λh' e k ⟨o,ho,hc⟩=>?_) (F.args_zip_next_1 _))));exact ad (wpAny_isInstance (T:="StopIteration") (b:=true) ⟨o,ho,hc⟩ isSubtype_stop (am (q _ k)))
def mf (hh:A.handled=none)(D:ZipApart z TI TO i1 i2 l1 l2)(hz:aY s.heap z TI TO (.int T t) (.bool fb))(hT:s.heap.get? T.toNat=some oT)(hI:IsPair s.heap TI (.ref i1) (.ref i2))
  (g1:aD tp1 s.heap i1 l1 k1) (g2:aD tp2 s.heap i2 l2 k2) (t1:aX tp1 s.heap l1 xs) (t2:aX tp2 s.heap l2 ys) (hx:xs[k1]? =none\/ys[k2]? =none)
  (q:∀ h',(∀ c o,c≠z->c≠i1->c≠i2->s.heap.get? c=some o->h'.get? c=some o)->Q none { s with heap:=h' }):wpAny (model prog w) A (pyNext (.ref z)) Q E s:=by
 have hT':s.TypeIs (.ref z) "zip":=⟨_,hz,rfl⟩;unfold pyNext;refine ad (wpAny_attempt (wpAny_callSpecial?_slot (name:=Str.ofString "__next__") hT' F.slot_zip_next (wpAny_call_entry F.slot_zip_next hT' F.entry_zip_next (nN hh D hz hT hI g1 g2 t1 t2 hx λh' e k ⟨o,ho,hc⟩=>?_) (F.args_zip_next_1 _))));exact ad (wpAny_isInstance (T:="StopIteration") (b:=true) ⟨o,ho,hc⟩ isSubtype_stop (am (q _ k)))
end
section
variable {prog:Program}{w:World}{A:Around}{E:AD}{s:Shared}{a:Addr}{vs:Array Value}
end
structure Zs (h:Heap) (tp1 tp2:Bool) (z TI TO i1 i2 l1 l2:Addr) (i:Nat) (xs ys:Array Value):Prop where
 zo:(∃ f1,aY h z TI TO .none f1)\/∃ (T:Int) (fb:Bool) (o:Obj),aY h z TI TO (rawInt T) (.bool fb)/\h.get? T.toNat=some o/\T.toNat≠z/\T.toNat≠TO/\T.toNat≠i1/\T.toNat≠i2
 hI:IsPair h TI (.ref i1) (.ref i2)
 hO:∃ a b,IsPair h TO a b
 g1:aD tp1 h i1 l1 i
 g2:aD tp2 h i2 l2 i
 t1:aX tp1 h l1 xs
 t2:aX tp2 h l2 ys
variable {d:Addr}
section
variable {prog:Program}{w:World}{A:Around}{E:AD}{s:Shared}{tp1 tp2:Bool}{z TI TO i1 i2 l1 l2:Addr}{i:Nat}{xs ys:Array Value}{x y:Value}
def Zs.next (D:ZipApart z TI TO i1 i2 l1 l2)(Z:Zs s.heap tp1 tp2 z TI TO i1 i2 l1 l2 i xs ys)(hx:xs[i]? =some x)(hy:ys[i]? =some y)
  (q:∀ h',Zs h' tp1 tp2 z TI TO i1 i2 l1 l2 (i+1) xs ys->IsPair h' s.heap.objs.size x y->h'.objs.size=s.heap.objs.size+1->(∀ c o,c≠z->c≠TO->c≠i1->c≠i2->s.heap.get? c=some o->h'.get? c=some o)->Q (some (.ref s.heap.objs.size)) { s with heap:=h' }):
  wpAny (model prog w) A (pyNext (.ref z)) Q E s:=by
 obtain⟨zo,hI,⟨a,b,hO⟩,g1,g2,t1,t2⟩:=Z;have n0:∀ {c o},s.heap.get? c=some o->s.heap.objs.size≠c:=λe=>Nat.ne_of_gt (sn e)
 rcases zo with⟨f1,hz⟩|⟨T,fb,o,hz,hT,n1,n2,n3,n4⟩
 .refine qk D hz hI hO g1 g2 t1 t2 hx hy λh' z1 o1 j1 j2 p1 sz k=>?_
  refine q h' ⟨.inr ⟨s.heap.objs.size,false,_,z1,p1,n0 hz,n0 hO,Nat.ne_of_gt g1.lt,Nat.ne_of_gt g2.lt⟩,k _ _ D.TIz D.TITO D.TIi1 D.TIi2 hI,⟨_,_,o1⟩,j1,j2,t1.to λo e=>k _ o D.l1z D.l1TO D.l1i1 D.l1i2 e,t2.to λo e=>k _ o D.l2z D.l2TO D.l2i1 D.l2i2 e⟩ p1 sz k
 .refine qE D hz hT hI g1 g2 t1 t2 hx hy λh' z1 j1 j2 p1 sz k=>?_
  exact q h' ⟨.inr ⟨T,true,o,z1,k _ _ n1 n3 n4 hT,n1,n2,n3,n4⟩,k _ _ D.TIz D.TIi1 D.TIi2 hI,⟨a,b,k _ _ D.TOz D.TOi1 D.TOi2 hO⟩,j1,j2,t1.to λo e=>k _ o D.l1z D.l1i1 D.l1i2 e,t2.to λo e=>k _ o D.l2z D.l2i1 D.l2i2 e⟩ p1 sz λc o m1 _ m3 m4 e=>k c o m1 m3 m4 e
def Zs.stop (hh:A.handled=none)(D:ZipApart z TI TO i1 i2 l1 l2)(Z:Zs s.heap tp1 tp2 z TI TO i1 i2 l1 l2 i xs ys)(hx:xs[i]? =none\/ys[i]? =none)
  (q:∀ h',(∀ c o,c≠z->c≠TO->c≠i1->c≠i2->s.heap.get? c=some o->h'.get? c=some o)->Q none { s with heap:=h' }):wpAny (model prog w) A (pyNext (.ref z)) Q E s:=by
 obtain⟨zo,hI,⟨a,b,hO⟩,g1,g2,t1,t2⟩:=Z;rcases zo with⟨f1,hz⟩|⟨T,fb,o,hz,hT,_⟩
 .exact tO hh D hz hI hO g1 g2 t1 t2 hx q
 .exact mf hh D hz hT hI g1 g2 t1 t2 hx λh' k=>q h' λc o m1 _ m3 m4 e=>k c o m1 m3 m4 e
def Zs.keep {h':Heap}(Z:Zs h tp1 tp2 z TI TO i1 i2 l1 l2 i xs ys)(k:∀ c o,h.get? c=some o->c≠d->h'.get? c=some o) (n:d≠z/\d≠TI/\d≠TO/\d≠i1/\d≠i2/\d≠l1/\d≠l2) (hd:∃ o,h'.get? d=some o):Zs h' tp1 tp2 z TI TO i1 i2 l1 l2 i xs ys:=by
 obtain⟨zo,hI,⟨a,b,hO⟩,g1,g2,t1,t2⟩:=Z;obtain⟨m1,m2,m3,m4,m5,m6,m7⟩:=n;refine⟨?_,k _ _ hI m2.symm,⟨a,b,k _ _ hO m3.symm⟩,g1.to λo e=>k _ o e m4.symm,g2.to λo e=>k _ o e m5.symm,t1.to λo e=>k _ o e m6.symm,t2.to λo e=>k _ o e m7.symm⟩;rcases zo with⟨f1,hz⟩|⟨T,fb,o,hz,hT,r⟩
 .exact .inl ⟨f1,k _ _ hz m1.symm⟩
 .by_cases e:T.toNat=d
  .obtain⟨o',ho⟩:=hd;exact .inr ⟨T,fb,o',k _ _ hz m1.symm,by rw[e];exact ho,r⟩
  .exact .inr ⟨T,fb,o,k _ _ hz m1.symm,k _ _ hT e,r⟩
end
section
variable {prog:Program}{w:World}{A:Around}{tp1 tp2:Bool}{z TI TO i1 i2 l1 l2 d:Addr}{xs ys:Array Value}{Ky:Type} [DecidableEq Ky] {knd:KeyKind prog w Ky}
end
section
variable {X:Cx}{Y:AE}{U:St}{H:Hp}{s:Shared}{a:Addr}{kvs:List (Key×V)}{A:Around}{E:AD}
end
section
variable {X:Cx}{Y:AE}{U:St}{H:Hp}{s:Shared}
end
def wF (d:Addr)(hd:(d ==sysModules)=false)(dd:Option Addr)(ep:Nat)(sl:Array (Option Value)):Meets (Builtin.«dict.__eq__» ⟨[.ref d,.ref d],[]⟩) (λ_ R s=>s.heap.get? d=some ⟨.type "dict",dd,.dict #[] ep,sl⟩/\R (.ok (.ret (.bool true))) s):=by
 intro prog w A R s hs;obtain⟨h,g,dp,tt,os⟩:=s;obtain⟨ho,q⟩:=hs;have hT:(⟨h,g,dp,tt,os⟩:Shared).TypeIs (.ref d) "dict":=⟨_,ho,rfl⟩;unfold Builtin.«dict.__eq__»
 k_delta "equality"
 unfold Builtin.Dict.dictSlotArgs;refine ad (ad (wpAny_notOrdered_dict hT ?_));show wpAny _ _ (pure (Value.ref d,[Value.ref d]) >>= _) _ _ _;refine ad (am (am ?_));have hi:=PySem.F.kt_sub_dict;show wpAny _ _ (isInstance (.ref d) (.type "dict") >>= _) _ _ _;unfold Builtin.Dict.samePairs;simp only[Std.Legacy.Range.forIn_eq_forIn_range']
 repeat(any_goals first|assumption|wp_step)
variable {A:Around}{s:Shared}{dd:Option Addr}{sl:Array (Option Value)}
def wC (hd:(d ==sysModules)=false){ep:Nat}(ho:s.heap.get? d=some ⟨.type "dict",dd,.dict #[] ep,sl⟩) (hu:A.units<cLine):SeqAt.RcAt A s (.ref d) (.ref d) true:=λprog w E Q h=>
 richCompare_meets_room (op:=.Eq) ⟨_,ho,rfl⟩ ⟨_,ho,rfl⟩ PySem.F.slot_dict_eq PySem.F.entry_dict_eq (PySem.F.args_dict_eq_2 _ _) (wF d hd dd ep sl) ⟨ho,show Value.bool true≠Value.notImplemented/\Q (.bool true) s from⟨(λx=>nomatch x),h⟩⟩ hu
abbrev nP (K:W.Frag)(H:Hp)(a:Addr):Prop:=(∃ xs,ax K H a xs)\/(∃ xs,a9 K H a xs)\/H a=some (.dK [])
variable {X:Cx}{Y:AE}
def pJ {U:St}{H:Hp}{a:Addr}(I:Inv X Y U H s)(h:nP X.K H a)(hu:A.units+2<cLine):SeqAt.RcAt A s (.ref a) (.ref a) true:=by
 rcases h with⟨xs,h⟩|⟨xs,h⟩|h
 .obtain⟨ia,ra,pa,_⟩:=I.list h;have rc:=SeqAt.RcAt.lists (A:=A) (e:=λ_=>true) pa.isList pa.isList rfl nofun λj h1 h2=>SeqAt.EqAt.same _
  have e:(List.range ia.toArray.size).all (λ_=>true)=true:=by simp
  rwa [e]at rc
 .obtain⟨ia,ra,pa,_⟩:=I.tuple h;have rc:=SeqAt.RcAt.tuples (A:=A) (e:=λ_=>true) (show s.heap.IsTuple a ia.toArray from pa) (show s.heap.IsTuple a ia.toArray from pa) nofun λj h1 h2=>SeqAt.EqAt.same _
  have e:((List.range (min ia.toArray.size ia.toArray.size)).all (λ_=>true)&&ia.toArray.size ==ia.toArray.size)=true:=by simp
  rwa [e]at rc
 .obtain⟨z,hd,vs,rel,dd⟩:=gh I.hok (.inl h);cases rel;obtain⟨⟨c,d,da,sl⟩,es,ep,ho,hx,he,_,hp,_⟩:=dd;have e0:es=#[]:=by
   cases hp':es.toList with
   |nil=>exact Array.toList_eq_nil_iff.mp hp'
   |cons a b=>rw[hp']at hp;cases hp
  subst e0;obtain rfl:da=.dict #[] ep:=he;obtain⟨rfl,_⟩:=hx;exact wC hd ho nofun
section
variable {prog:Program}{w:World}{A:Around}{E:AD}{s:Shared}{T:String}{r d:Addr}{n:Nat}{P:Nat->Value->Prop}{OK:Heap->Prop}
end
abbrev mJ (tp:Bool):String:=match tp with
 |true=>"tuple"
 |false=>"list"
abbrev mi (K:W.Frag)(C:Addr):Bool:=findIn K (.ref C) "__eq__" ==some (some (.builtin "object.__eq__"))&&subIn K (.ref C) (.type "str") ==some false&&subIn K (.ref C) (.type "object") ==some true
structure zM (K:Frag) (C:Addr):Prop where
 makes:makesIn K C=true
 init:findIn K (.ref C) "__init__"=some (some (.builtin "object.__init__"))
 kp:keepIn K (.ref C)=true
@[reducible]def VV:List (V×V)->List (Value×Value)->Prop:=Paired λp q=>RelV p.1 q.1/\RelV p.2 q.2
abbrev PQ (X:Cx)(pos:Pos)(keys:List (Option Expr))(values:List Expr)(t:St->Hp->(List (V×V)->Hp->Prop)->Prop):Prop:=
 ∀ (Y:AE) (s:Shared) (U:St) (H:Hp) (Q:List (V×V)->Hp->Prop),Inv X Y U H s->t U H Q->
  wpAny (model X.prog X.w) X.A (evalPairs (pairTrees keys values X.env pos)) (λvs s'=>∃ ps H',Inv X Y U H' s'/\VV ps vs/\Q ps H') X.xe s
variable {pos:Pos}
def tR:PQ X pos [] [] (λ_ H Q=>Q [] H):=λY s U H Q I h=>pairTrees_nil_walk ⟨[],H,I,.nil,h⟩
variable {t:St->Hp->(List (V×V)->Hp->Prop)->Prop}
def qy {k v:Expr}{ks:List (Option Expr)}{vs:List Expr}{tk tv:TE}(hk:PE X k tk)(hv:PE X v tv)(hr:PQ X pos ks vs t):
  PQ X pos (some k::ks) (v::vs) (λU H Q=>tk U H λx H1=>tv U H1 λy H2=>t U H2 λps H3=>Q ((x,y)::ps) H3):=λY s U H Q I h=>
 pairTrees_cons_walk (ak (hk Y s U H _ I h) λu s1 ⟨x,H1,I1,rx,q1⟩=>ak (hv Y s1 U H1 _ I1 q1) λw2 s2 ⟨y,H2,I2,ry,q2⟩=>
  ak (hr Y s2 U H2 _ I2 q2) λws s3 ⟨ps,H3,I3,rel,q3⟩=>⟨(x,y)::ps,H3,I3,.cons ⟨rx,ry⟩ rel,q3⟩)
abbrev cq (kvs more:List (Key×V)):List (Key×V):=more.foldl (λacc kv=>putK acc kv.1 kv.2) kvs
def KV.merge:∀ {more:List (Key×V)}{rs:List (Key×Value)}{kvs:List (Key×V)}{vs:List (Key×Value)},KV more rs->KV kvs vs->KV (cq kvs more) (merged vs rs):=by
 intro more rs kvs vs r;unfold KV at r
 induction r generalizing kvs vs with
 |nil=>intro q;exact q
 | @cons p q ps qs h t ih=>
  intro r0;have e:KV (putK kvs p.1 p.2) (stored vs q.1 q.2):=by
   have:=r0.put p.1 h.2;rw[<-h.1];exact this
  exact ih e
def cp:∀ (more kvs:List (Key×V)),(cq kvs more).length<=kvs.length+more.length
 | [],kvs=>by show kvs.length<=kvs.length+0;omega
 |p::r,kvs=>by
  have h1:=cp r (putK kvs p.1 p.2);have h2:=bJ kvs p.1 p.2;show(cq (putK kvs p.1 p.2) r).length<=_;rw[length_cons];omega
def eK {P:Program}{w:World}:∀ {kvs:List (Key×V)}{ws:List (Value×Value)},VV (kvs.map λkv=>(kV kv.1,kv.2)) ws->∃ rs,Carries (aq P w) ws rs/\KV kvs rs
 | [],_,r=>by rw[List.map_nil]at r;cases r;exact⟨[],True.intro,.nil⟩
 |p::kvs,_,r=>by
  rw[map_cons]at r;cases r with
  | @cons a b as bs h t=>
   obtain⟨rs,c,q⟩:=eK (P:=P) (w:=w) t;obtain⟨b1,b2⟩:=b;exact⟨(p.1,b2)::rs,⟨kL h.1,rfl,c⟩,.cons ⟨rfl,h.2⟩ q⟩
abbrev xF (t:St->Hp->(List (V×V)->Hp->Prop)->Prop):TE:=λU H Q=>∀ p,H p=none->t U (upd H p (.dK [])) λps H2=>H2 p=some (.dK [])/\∃ kvs:List (Key×V),ps=kvs.map (λkv=>(kV kv.1,kv.2))/\kvs.length<=15/\Q (.ref p) (upd H2 p (.dK (cq [] kvs)))
def pO {keys:List (Option Expr)}{values:List Expr}(h:PQ X pos keys values t)(hall:keys.all (·.isSome)=true)(hl:keys.length=values.length)(h0:keys≠[])
  (h15:keys.length<=15):PE X (.Dict keys values pos) (xF t):=by
 intro Y s U H Q I q;have hn:=I.hok.fresh (nl s.heap.objs.size);have I1:=I.laid (a:=s.heap.objs.size) (o:=.dK []) (h':=s.heap.push { cls:=.type "dict",data:=.dict #[] }) (t':=s.toks) (λ_ _ q=>re _ q) (nl _) (n8 s.heap I.big);refine wpAny_Dict_walk (knd:=aq X.prog X.w) hall hl h0 h15 (ak (h Y _ U _ _ I1 (q _ hn)) λws s2 ⟨ps,H2,I2,rel,e,kvs,ep,lk,q2⟩=>?_);subst ep;obtain⟨rs,c,rk⟩:=eK (P:=X.prog) (w:=X.w) rel;obtain⟨z,hd,vs0,r0,dd⟩:=sP I2.hok e;cases r0;refine⟨rs,c,dd,λh' dd' hs=>⟨.ref s.heap.objs.size,_,?_,rfl,q2⟩⟩;have hz:(cq [] kvs).length<=bm:=by
  have h1:=cp kvs [];rw[length_nil]at h1;rw[sizeLine_eq];omega
 have he:∃ q,h'.get? s.heap.objs.size=some q:=let⟨q,_,_,hq,_⟩:=dd';⟨q,hq⟩;exact gw I2 (by rw[e];exact True.intro) hs he (mV hz hd (rk.merge .nil) dd')
abbrev jg (K:W.Frag)(C:Addr):Bool:=findIn K (.ref C) "__ne__" ==some (some (.builtin "object.__ne__"))&&mi K C
section
variable {A:Around}{s:Shared}{l C dx:Addr}{od:Option Obj}{K:W.Frag}{prog:Program}{w:World}{E:AD}
def wZ (X:K.In s.heap)(I:InstAt s.heap l (instObj C dx) C od)(h1:findIn K (.ref C) "__eq__"=some (some (.builtin "object.__eq__"))) (h3:subIn K (.ref C) (.type "object")=some true) (h:Q (some (.bool true)) s):wpAny (model prog w) A (callSpecialIfBound? (.ref l) "__eq__" [.ref l]) Q E s:=by
 simp only[callSpecialIfBound?,bindSpecialIfBound?];refine bd (ad (ad (ad (I.type.here ((looks_findIn X h1).here ?_)))));simp only[PySem.F.cmp_object.eq.bind];have fin:wpAny (model prog w) A (call (.builtin "object.__eq__") ([.ref l]++[.ref l]) >>= λv=>pure (some v)) Q E s:=by
  refine ad (wpAny_call (codeAny_call_builtin PySem.F.cmp_object.eq.plain PySem.F.cmpEntry_eq ?_));simp only[checkBuiltinCall,PySem.F.cmpKind_eq,PySem.F.cmpSplit_eq];refine ad (ad (I.type.here ((looks_subIn X h3).here ?_)));rw[if_neg (by simp)];have ha:=PySem.F.cmpArgs_eq (.ref l) (.ref l);have h0:(match Manifest.signature? "object.__eq__" with|some sig=>Bind.checkArgs "object.__eq__" sig { pos:=[Value.ref l]++[Value.ref l] }|x=>pure ())=pure ():=ha;refine wpAny_of_eq h0 ?_;exact objEq_entry_same (am h)
 refine ad (wpAny_askSetting (wpAny_ite ?_))
 split
 .exact ad (am (am fin))
 .exact wpAny_tryCatch (ad (am (am fin)))
def xl (X:K.In s.heap)(I:InstAt s.heap l (instObj C dx) C od)(h1:findIn K (.ref C) "__eq__"=some (some (.builtin "object.__eq__"))) (h2:findIn K (.ref C) "__ne__"=some (some (.builtin "object.__ne__"))) (h3:subIn K (.ref C) (.type "object")=some true) (hu:A.units+2<cLine) (h:Q (some (.bool false)) s):wpAny (model prog w) A (callSpecialIfBound? (.ref l) "__ne__" [.ref l]) Q E s:=by
 simp only[callSpecialIfBound?,bindSpecialIfBound?];refine bd (ad (ad (ad (I.type.here ((looks_findIn X h2).here ?_)))));simp only[PySem.F.cmp_object.ne.bind];have fin:wpAny (model prog w) A (call (.builtin "object.__ne__") ([.ref l]++[.ref l]) >>= λv=>pure (some v)) Q E s:=by
  refine ad (wpAny_call (codeAny_call_builtin PySem.F.cmp_object.ne.plain PySem.F.cmpEntry_ne ?_));simp only[checkBuiltinCall,PySem.F.cmpKind_ne,PySem.F.cmpSplit_ne];refine ad (ad (I.type.here ((looks_subIn X h3).here ?_)));rw[if_neg (by simp)];have ha:=PySem.F.cmpArgs_ne (.ref l) (.ref l);have h0:(match Manifest.signature? "object.__ne__" with|some sig=>Bind.checkArgs "object.__ne__" sig { pos:=[Value.ref l]++[Value.ref l] }|x=>pure ())=pure ():=ha;refine wpAny_of_eq h0 ?_;unfold Builtin.«object.__ne__»;show wpAny _ _ (pure (Value.ref l,[Value.ref l]) >>= _) _ _ _;refine ad (am ?_);refine ad (wpAny_cRoomFor (show A.units+1<cLine by omega) ?_);refine ad (wZ X I h1 h3 ?_);refine ad (be ?_);exact am (am h)
 refine ad (wpAny_askSetting (wpAny_ite ?_))
 split
 .exact ad (am (am fin))
 .exact wpAny_tryCatch (ad (am (am fin)))
def lR (X:K.In s.heap)(I:InstAt s.heap l (instObj C dx) C od)(hC:jg K C=true)(hu:A.units+3<cLine):SeqAt.RcNeAt A s (.ref l) (.ref l) false:=λprog w E Q h=>by
 unfold jg mi at hC;simp only[lf,beq_iff_eq]at hC;obtain⟨h0,⟨h1,h2⟩,h3⟩:=hC;simp only[richCompare,PySem.cmpInfo_NotEq]
 try with_reducible refine bd ?_
 refine ad (wpAny_cRoomFor nofun ?_);show wpAny _ _ (typeOf (Value.ref l) >>= _) _ _ _;refine ad (I.type.here (ad (I.type.here ?_)));rw[if_neg (by simp)];refine ad (am ?_);rw[if_neg (by simp)];refine ad ?_;simp only[tryCompare];refine ad (xl X I h1 h0 h3 nofun ?_);exact am (am h)
def wK (d:Addr)(hd:(d ==sysModules)=false)(dd:Option Addr)(ep:Nat)(sl:Array (Option Value)):Meets (Builtin.«dict.__ne__» ⟨[.ref d,.ref d],[]⟩) (λ_ R s=>s.heap.get? d=some ⟨.type "dict",dd,.dict #[] ep,sl⟩/\R (.ok (.ret (.bool false))) s):=by
 intro prog w A R s hs;obtain⟨h,g,dp,tt,os⟩:=s;obtain⟨ho,q⟩:=hs;have hT:(⟨h,g,dp,tt,os⟩:Shared).TypeIs (.ref d) "dict":=⟨_,ho,rfl⟩;unfold Builtin.«dict.__ne__»
 k_delta "equality"
 unfold Builtin.Dict.dictSlotArgs;refine ad (ad (wpAny_notOrdered_dict hT ?_));show wpAny _ _ (pure (Value.ref d,[Value.ref d]) >>= _) _ _ _;refine ad (am (am ?_));have hi:=PySem.F.kt_sub_dict;show wpAny _ _ (isInstance (.ref d) (.type "dict") >>= _) _ _ _;unfold Builtin.Dict.samePairs;simp only[Std.Legacy.Range.forIn_eq_forIn_range']
 repeat(any_goals first|assumption|wp_step)
def rK (hd:(d ==sysModules)=false){ep:Nat}(ho:s.heap.get? d=some ⟨.type "dict",dd,.dict #[] ep,sl⟩) (hu:A.units<cLine):SeqAt.RcNeAt A s (.ref d) (.ref d) false:=λprog w E Q h=>
 richCompare_meets_room (op:=.NotEq) ⟨_,ho,rfl⟩ ⟨_,ho,rfl⟩ PySem.F.slot_dict_ne PySem.F.entry_dict_ne (PySem.F.args_dict_ne_2 _ _) (wK d hd dd ep sl) ⟨ho,show Value.bool false≠Value.notImplemented/\Q (.bool false) s from⟨(λx=>nomatch x),h⟩⟩ hu
abbrev n6 (K:W.Frag)(H:Hp)(a:Addr):Prop:=(∃ xs,a9 K H a xs)\/H a=some (.dK [])\/(∃ C dx fs,H a=some (.ins C dx fs)/\jg K C=true)\/∃ xs,ax K H a xs
def rf {U:St}{H:Hp}{a:Addr}(I:Inv X Y U H s)(h:n6 X.K H a)(hu:A.units+3<cLine):SeqAt.RcNeAt A s (.ref a) (.ref a) false:=by
 rcases h with⟨xs,h⟩|h|⟨C,dx,fs,h,hn⟩|⟨xs,h⟩
 .obtain⟨ia,ra,pa,_⟩:=I.tuple h;have rc:=SeqAt.RcNeAt.tuples (A:=A) (e:=λ_=>true) (show s.heap.IsTuple a ia.toArray from pa) (show s.heap.IsTuple a ia.toArray from pa) nofun λj h1 h2=>SeqAt.EqAt.same _
  have e:((List.range (min ia.toArray.size ia.toArray.size)).all (λ_=>true)&&ia.toArray.size ==ia.toArray.size)=true:=by simp
  rw[e]at rc;exact rc
 .obtain⟨z,hd,vs,rel,dd⟩:=gh I.hok (.inl h);cases rel;obtain⟨⟨c,d,da,sl⟩,es,ep,ho,hx,he,_,hp,_⟩:=dd;have e0:es=#[]:=by
   cases hp':es.toList with
   |nil=>exact Array.toList_eq_nil_iff.mp hp'
   |cons a b=>rw[hp']at hp;cases hp
  subst e0;obtain rfl:da=.dict #[] ep:=he;obtain⟨rfl,_⟩:=hx;exact rK hd ho nofun
 .obtain⟨mA,o,_⟩:=cR I.hok h;obtain⟨od,i,_⟩:=o.look;exact lR I.aJ i hn hu
 .obtain⟨ia,ra,pa,_⟩:=I.list h;have rc:=SeqAt.RcNeAt.lists (A:=A) (e:=λ_=>true) pa.isList pa.isList rfl nofun λj h1 h2=>SeqAt.EqAt.same _
  have e:(List.range ia.toArray.size).all (λ_=>true)=true:=by simp
  rw[e]at rc;exact rc
end
end L2
namespace L2
open PySem PySem.Spec PyProof.Rows
section
variable {X:Cx}{tg:Expr}
end
end L2
namespace L2
open PySem PySem.Spec PySem.W PyProof.Rows
open PySem.AutoSeq1 (wpAny_loadPart')
section
variable {prog:Program}{w:World}{A:Around}{E:AD}{s:Shared}
end
section
variable {X:Cx}{Y:AE}{U:St}{H:Hp}{s:Shared}
end
section
variable {prog:Program}{w:World}{A:Around}{E:AD}{s:Shared}
variable {z TI TO i1 i2 i3 l1 l2 l3:Addr}{k1 k2 k3:Nat}{tp1 tp2 tp3:Bool}{xs ys zs:Array Value}{x y v a b c f1:Value}
end
variable {X:Cx}{e es:Expr}{te:TE}{ts:TO}{p2 pos:Pos}
def kM:∀ {xs:List V}{us:List Value},xs.length=us.length->(∀ (j:Nat) (x:V) (u:Value),xs[j]? =some x->us[j]? =some u->RelV x u)->Vals xs us
 | [],[],_,_=>.nil
 |x::xs,u::us,e,h=>.cons (h 0 x u rfl rfl) (kM (Nat.succ.inj e) λj a b e1 e2=>h (j+1) a b e1 e2)
def kG:∀ {kvs:List (Key×V)}{vs:List (Key×Value)},KV kvs vs->kvs.map (·.1)=vs.map (·.1)
 |_,_,.nil=>rfl
 |_,_,.cons r rs=>by rw[map_cons,map_cons,r.1,kG rs]
def jA {Y:AE}{U:St}{H:Hp}{s:Shared}{Q:VK}{d:Addr}{kvs:List (Key×V)}(hc:X.calm=true)(I:Inv X Y U H s)(e:Rd H d (.dK kvs))(q:∀ p,H p=none->Q (.ref p) (upd H p (.lst (kvs.map (λkv=>kV kv.1))))):
  wpAny (model X.prog X.w) X.A (call (.type "list") [.ref d]) (EP X Y U Q) X.xe s:=by
 obtain⟨hz,hd,vs,rel,dd⟩:=gh I.hok e;obtain⟨o,es,ep,ho,hx,he,hk,hp,hn⟩:=dd;have hA:s.heap.DictAt (aq X.prog X.w) d vs ep:=⟨o,es,ho,hx,he,hk,hp,hn⟩;have hl:vs.length<=bm:=by rw[<-rel.length];exact hz
 refine kdl_call (kdl_dict hd) (I.ok.hd hc) hA hl λh' tk acc c' hk' hD hi=>?_
 have r:Vals (kvs.map (λkv=>kV kv.1)) acc.toList:=kM ((bv ..).trans (rel.length.trans (hi.1.symm.trans Array.length_toList.symm))) λj x u e1 e2=>by
  rw[gt]at e1;obtain⟨⟨k,y⟩,ek,rfl⟩:=li.mp e1;obtain⟨k',y',ek',hs⟩:=hi.2 j u (by rw[<-Array.getElem?_toList];exact e2);have ekk:k=k':=by
   have h2:(kvs.map (·.1))[j]? =(vs.map (·.1))[j]? :=by rw[kG rel]
   rw[gt,gt,ek,ek']at h2;exact Option.some.inj h2
  subst ekk;rcases aj hs with⟨i,t,rfl,rfl⟩|⟨z,t,rfl,rfl⟩
  .exact⟨t,rfl⟩
  .exact⟨t,rfl⟩
 exact⟨.ref _,_,I.laid (t':=tk) hk' (nl _) (show ao X.prog X.w _ h' _ (.lst (kvs.map (λkv=>kV kv.1))) from⟨by rw[bv];exact hz,acc.toList,c',r,by rw[Array.toArray_toList];exact hD⟩),rfl,q _ (I.hok.fresh (nl _))⟩
end L2
namespace L2
open PySem PySem.Spec PyProof.Rows
abbrev vI (z:Str):It:=⟨λi _=>i<z.cps.size,λi H x H'=>H'=H/\∃ c,z.cps[i]? =some c/\x=.str ⟨#[c]⟩,λi _=>z.cps.size<=i⟩
def oV {P:Program}{w:World}{K:W.Frag}{tg:Expr}(it:Addr)(z:Str)(t:Tok):Turn P w K tg (vI z) [it] it (λi h=>h.IsStrIter it (strIterType z) z t i) where
 mem:=by simp
 obj:=λi h st b hb=>by
  have e:b=it:=by simpa using hb
  subst e;obtain⟨o,e,c,d⟩:=st;exact⟨o,e,λv z=>by rw[d]at z;cases z⟩
 keep:=λi h h' st k=>let⟨o,ho,r⟩:=st;⟨o,k it (by simp) o ho,r⟩
 item:=by
  intro X hP hw hK hc i Y s U H E I hf st hg;subst hP hw hK;obtain⟨f0,f1,f2,f3,f4,f5⟩:=hf it (by simp);have go:∀ T,(T="str_ascii_iterator"\/T="str_iterator")->strIterType z=T->wpAny (model X.prog X.w) X.A (pyNext (.ref it)) (λr s1=>∃ u,r=some u/\
   wpAny (model X.prog X.w) X.A (letOwnedTupleGo tg (.ref it) u) (λ_ s2=>∃ x H',Inv X Y U H' s2/\RelV x u/\(vI z).yld i H x H'/\s2.heap.IsStrIter it (strIterType z) z t (i+1)/\∀ b ∈ [it],H' b=none) E s1) E s:=by
   intro T hT eT;rw[eT]at st⊢;have fin:∀ v h' tk,SignAt z i v->h'.IsStrIter it T z t (i+1)->(∀ b o,b ∉ [it]->s.heap.get? b=some o->h'.get? b=some o)->∃ u,some v=some u/\
    wpAny (model X.prog X.w) X.A (letOwnedTupleGo tg (.ref it) u) (λ_ s2=>∃ x H',Inv X Y U H' s2/\RelV x u/\(vI z).yld i H x H'/\s2.heap.IsStrIter it T z t (i+1)/\∀ b ∈ [it],H' b=none) E { s with heap:=h',toks:=tk }:=by
    intro v h' tk hv st' kk;obtain⟨c,u,hc',rfl⟩:=hv;have I1:Inv X Y U H { s with heap:=h',toks:=tk }:=I.turned (λb o hb e=>kk b o (by simpa using hb) e) f0 f1 f3 f4 f5;obtain⟨o,e,cc,d⟩:=id st';exact⟨_,rfl,kc (s:={ s with heap:=h',toks:=tk }) e cc d (by rcases hT with rfl|rfl<;>decide) ⟨.str ⟨#[c]⟩,H,I1,⟨u,rfl⟩,⟨rfl,c,hc',rfl⟩,st',λb hb=>(hf b hb).1⟩⟩
   rcases hT with rfl|rfl
   .exact(Walks.strAscii (prog:=X.prog) (w:=X.w) (I.ok.hd hc) it z t).item i s _ _ hg st fin
   .exact(Walks.strWide (prog:=X.prog) (w:=X.w) (I.ok.hd hc) it z t).item i s _ _ hg st fin
  have hz:strIterType z="str_ascii_iterator"\/strIterType z="str_iterator":=by unfold strIterType;split<;>simp
  exact go _ hz rfl
 done:=by
  intro X hP hw hK hc i Y s U H E I hf st hg;subst hP hw hK;obtain⟨f0,f1,f2,f3,f4,f5⟩:=hf it (by simp);have hx:z.cps[i]? =none:=Array.getElem?_eq_none hg;have fin:∀ h',Heap.ExtBut it s.heap h'->(none:Option Value)=none/\Inv X Y U H { s with heap:=h' }:=λh' eb=>⟨rfl,I.turned (t':=s.toks) (λb o hb e=>eb b o hb e) f0 f1 f3 f4 f5⟩
  unfold strIterType at st
  split at st
  .exact wpAny_pyNext_ascii_end (I.ok.hd hc) st hx fin
  .exact wpAny_pyNext_wide_end (I.ok.hd hc) st hx fin
 self:=λ_ _ _ _ _ st h=>by
  unfold strIterType at st
  split at st
  .exact wpAny_pyIter_striter_ascii st h
  .exact wpAny_pyIter_striter_wide st h
def o9 {X:Cx}{tg:Expr}{Y:AE}{U:L2.St}{H1:Hp}{s1:Shared}{R:It->Hp->Prop}{z:Str}{v:Value}(I1:Inv X Y U H1 s1)(r:RelV (.str z) v)(q:R (vI z) H1):
  wpAny (model X.prog X.w) X.A (pyIter v) (xM X Y U tg R) X.xe s1:=by
 obtain⟨t,rfl⟩:=r;refine wpAny_pyIter_strU ?_;refine⟨s1.heap.objs.size,[s1.heap.objs.size],_,_,H1,rfl,I1.kept (t':=s1.toks) λb o e=>re _ e,oV _ z t,⟨_,ss _ rfl,rfl,rfl⟩,λb hb=>?_,q⟩;have e:b=s1.heap.objs.size:=by simpa using hb
 subst e;exact I1.qQ (nl _) (I1.hok.fresh (nl _))
def Inv.fq {X:Cx}{Y:AE}{U:L2.St}{H:Hp}{s:Shared}{d:Addr}{kvs:List (Key×V)}(I:Inv X Y U H s)(e:H d=some (.dK kvs)):∃ o,Inv X Y U (upd H d (.fq o (.dK kvs))) s:=by
 obtain⟨_,_,vs,rel,o,es,ep,ho,r⟩:=id (show ao X.prog X.w H s.heap d (.dK kvs) from I.hok d _ e);have ne:∀ b u,H b=some u->u≠.dK kvs->b≠d:=λb u hb hn z=>by subst z;rw[e]at hb;cases hb;exact hn rfl
 refine⟨o,I.step (h':=s.heap) (t':=s.toks) (g':=s.gens) (d':=s.drawn) (ch:=[]) (λ_ z=>nomatch z) (λb o _ _ _ e _=>e) (λb o _ _ _ e _=>⟨o.slots,e⟩) (λb o _ _ n=>by rw[ab (λz=>by subst z;rw[e]at n;cases n)];exact n) (λb o _ e=>⟨o,e⟩)
  (λb xs h=>by rw[ab (ne b _ h (λz=>by cases z))];exact h) (λb o u h=>by rw[ab (ne b _ h (λz=>by cases z))];exact h) (λb ps h=>⟨#[],by rw[ab (ne b _ h (λz=>by cases z)),h];simp⟩) (λm hm=>hm) (λb u hb=>?_) I.bare⟩
 have cJ:∀ b u,H b=some u->ao X.prog X.w (upd H d (.fq o (.dK kvs))) s.heap b u:=λb u hb=>(I.hok b u hb).cJ (λ_ _ _ e=>e) (λc hc=>by rw[ab (ne c _ hc (λz=>by cases z))];exact hc) (λc xs hc=>by rw[ab (ne c _ hc (λz=>by cases z))];exact hc)
 by_cases z:b=d
 .subst z;rw[ag]at hb;cases hb;exact⟨ho,cJ _ _ e⟩
 .rw[ab z]at hb;exact cJ b u hb
section
variable {X:Cx}
def fV:∀ {us:List Value}{ys:List Str},Vals (ys.map V.str) us->StrsAre us ys
 |_,[],.nil=>.nil
 |_,y::ys,.cons r h=>by
  obtain⟨t,rfl⟩:=r;exact .cons y t (fV h)
def fZ:∀ l:List (Str×Tok),Vals ((l.map (·.1)).map V.str) (strValues l)
 | []=>.nil
 |(y,t)::l=>.cons ⟨t,rfl⟩ (fZ l)
abbrev rJoin (K:W.Frag):V->List V->Hp->VK->Prop:=λx vs H Q=>∃ z p,∃ ys:List Str,x=.str z/\vs=[.ref p]/\ax K H p (ys.map V.str)/\(ys.map (·.length)).sum+ys.length<=1000000/\z.length<=16/\Q (.str (Txt.join z ys)) H
def qS:sN X "str.join" (rJoin X.K):=by
 intro Y s U H x vs v us Q I rx rv h;obtain⟨z,p,ys,rfl,rfl,hp,hw,hz,q⟩:=h;obtain⟨t,rfl⟩:=rx;cases rv with
 |cons r rv=>
  cases rv;cases r;obtain⟨its,rl,pl,_⟩:=I.list hp;exact join_listW pl.isList (by rw[List.toList_toArray];exact fV rl) hz nofun λt' k=>⟨.str _,H,I.tok _,⟨t',rfl⟩,q⟩
abbrev g4:V->List V->Hp->VK->Prop:=λx vs H Q=>∃ z y,x=.str z/\vs=[.str y]/\Q (.bl (Txt.startswith z y)) H
def lh:sN X "str.startswith" g4:=by
 intro Y s U H x vs v us Q I rx rv h;obtain⟨z,y,rfl,rfl,q⟩:=h;obtain⟨t,rfl⟩:=rx;cases rv with
 |cons r rv=>
  cases rv;obtain⟨t',rfl⟩:=r;exact PySem.SC.startswith ⟨.bl _,H,I,rfl,q⟩
abbrev jN:V->List V->Hp->VK->Prop:=λx vs H Q=>∃ z y:Str,x=.str z/\vs=[.str y]/\(y.length ==0)=false/\z.length<=100000/\∀ p,H p=none->Q (.ref p) (upd H p (.lst ((Txt.split z y).map V.str)))
def oo:sN X "str.split" jN:=by
 intro Y s U H x vs v us Q I rx rv h;obtain⟨z,y,rfl,rfl,hy,hz,q⟩:=h;obtain⟨t,rfl⟩:=rx;cases rv with
 |cons r rv=>
  cases rv;obtain⟨u,rfl⟩:=r;have hsp:(Txt.split z y).length<=200000:=Nat.le_trans (fact_split z y).2 nofun;have fin:∀ (l:List (Str×Tok)) (k:Nat),l.map (·.1)=Txt.split z y->EP X Y U Q (.ref s.heap.objs.size) { s with toks:=k,heap:=s.heap.push { cls:=.type "list",data:=.seq (strValues l).toArray } }:=λl k e=>by
   refine⟨.ref s.heap.objs.size,_,I.laid (t':=k) (λb o e=>re _ e) (nl _) (o:=.lst ((Txt.split z y).map V.str)) ⟨?_,strValues l,0,by rw[<-e];exact fZ l,ss _ rfl⟩,rfl,q _ (I.hok.fresh (nl _))⟩;rw[bv,sizeLine_eq]
   omega
  have hsz:z.length<=bm:=by rw[sizeLine_eq];omega
  open PySem.Builtin.Str in
  cases h1:(decide (z.length<y.length)||decide (strKind z<strKind y))
  .cases hf:(occurrences z y 0 z.length (z.length+1)).isEmpty
   .have e:Txt.split z y=_:=(if_neg (ne_true_of_eq_false h1)).trans (if_neg (ne_true_of_eq_false hf));refine call_meets F.slot_str_split (typeIs_str _ _ _) F.entry_str_split (F.args_str_split_2 _ _) (meets_str_split_sep z y t u h1 hy hf hsz ?_) ?_
    .have e2:=congrArg List.length e;rw[sizeLine_eq,<-e2]
     omega
    .show wants _ _ _ { s with toks:=_,heap:=s.heap.push { cls:=.type "list",data:=.seq (strsFrom s.toks (partsBetween z (occurrences z y 0 z.length (z.length+1)) y.length)).toArray } };rw[strsFrom_eq];exact fin (numbered s.toks _) _ ((numbered_texts _ _).trans e.symm)
   .exact call_meets F.slot_str_split (typeIs_str _ _ _) F.entry_str_split (F.args_str_split_2 _ _) (meets_str_split_not_found z y t u h1 hy hf)
     (fin [(z,t)] s.toks ((if_neg (ne_true_of_eq_false h1)).trans (if_pos hf)).symm)
  .exact call_meets F.slot_str_split (typeIs_str _ _ _) F.entry_str_split (F.args_str_split_2 _ _) (meets_str_split_cannot_occur z y t u h1)
    (fin [(z,t)] s.toks (if_pos h1).symm)
end
end L2
namespace L2
open PySem PySem.Spec PySem.W PyProof.Rows SeqAt
open AutoSeq1 (wpAny_loadPart')
open MeetsSeq MeetsSeq2 MeetsSeq3 SeqRoads2
section
variable {prog:Program}{w:World}
end
end L2
namespace L2
open PySem PySem.Spec PySem.W PyProof.Rows PySem.Calls PyProof.V
abbrev qq (K:W.Frag)(a:Addr)(D:List (Str×Str)):Prop:=KTD.tabLook KTD.flatLooks (λb=>K.lookup b) a (D.map λp=>(p.1,PyData.str p.2))=true
abbrev zg (D:List (Str×Str)):List (Str×KTD.Dat):=(D.map λp=>(p.1,PyData.str p.2)).map λp=>(p.1,KTD.Dat.flat p.2)
variable {Q:AD}
section
variable {X:Cx}{Y:AE}{U:St}{H:Hp}{s:Shared}{a:Addr}{D:List (Str×Str)}{k w:Str}{t:Tok}{A:Around}{E:AD}
def gG (I:Inv X Y U H s)(g:qq X.K a D):KTD.Here s.heap s.heap a (zg D):=
 ⟨(KTD.tab_of_look (R:=λd v=>Flat v d) (λ_ _ h=>KTD.flat_of_looks h) (λb o q=>I.aJ b o q) g).text,λ_ _ h=>h⟩
def kE (k:Str):∀ D:List (Str×Str),KTD.datumAt k (zg D)=(D.lookup k).map λz=>KTD.Dat.flat (.str z)
 | []=>rfl
 |(x,y)::D=>by
  have ih:=kE k D;show(if decide (k=x)=true then some (KTD.Dat.flat (.str y)) else KTD.datumAt k (zg D))=_;rw[lookup_cons]
  by_cases h:k=x
  .subst h;simp
  .rw[show(k ==x)=false by simpa using h,if_neg (by simpa using h),ih]
def vi (I:Inv X Y U H s)(g:qq X.K a D)(hw:D.lookup k=some w)(h:∀ t' s',Inv X Y U H s'->Q (.str w t') s'):wpAny (model X.prog X.w) A (getItem (.ref a) (.str k t)) Q E s:=by
 have T:=gG I g;unfold getItem
 try with_reducible refine bd ?_
 refine ad (wpAny_sequenceKey T.typeIs (by decide) ?_);refine ad (wpAny_callSpecial?_slot (name:=Str.ofString "__getitem__") T.typeIs slot_dict_getitem
  (wpAny_call_entry slot_dict_getitem T.typeIs entry_dict_getitem ?_ (args_dict_getitem _ _)))
 show wpAny _ _ (dictGet a (.str k t) >>= _) _ _ s;refine ad (KTD.dictGet_text T (λd v ha hv=>?_) λhn=>?_)
 .rw[kE,hw]at ha;cases ha;obtain⟨t',rfl⟩:∃ t',v=.str w t':=by
   have r:=(show Flat v (.str w) from hv) s.heap;cases r;exact⟨_,rfl⟩
  exact am ⟨_,rfl,am (h _ _ (I.tok _))⟩
 .rw[kE,hw]at hn;cases hn
def wN (I:Inv X Y U H s)(g:qq X.K a D)(h:∀ s',Inv X Y U H s'->Q (.bool (D.lookup k).isSome) s'):wpAny (model X.prog X.w) A (compareOp .In (.str k t) (.ref a)) Q E s:=by
 have T:=gG I g;refine KTD.in_text T ?_;rw[<-KTD.isSome_datumAt,kE,Option.isSome_map];exact h _ (I.tok _)
def kZ {x:Str}{n:Int}(hn:PySem.intText? x=some n)(hl:x.length<=640)(h:Q (.int n s.toks) { s with toks:=s.toks+1 }):wpAny (model X.prog X.w) A (call (.type "int") [.str x t]) Q E s:=KIN.call_text hn hl h
end
abbrev iK (z:Str)(lo hi:Option Int):Str:=⟨((z.cps.toList.drop (HT.cf z.length 0 lo)).take (HT.cf z.length z.length hi-HT.cf z.length 0 lo)).toArray⟩
def mF (z:Str)(lo hi:Option Int):(iK z lo hi).length<=z.length:=by
 show(List.toArray _).size<=z.cps.size;rw[f8,cr,ii,Array.length_toList]
 omega
def j0 (lo hi:Option Int)(n:Nat):Builtin.Str.strSliceIndices lo hi 1 n=(List.range (HT.cf n n hi-HT.cf n 0 lo)).map (HT.cf n 0 lo+·):=by
 rw[<-sliceRange_one];have e:∀ (o:Option Int) (d:Nat),(match o with|none=>(d:Int)|some i=>max 0 (min (if i<0 then i+(n:Int) else i) (n:Int)))=((HT.cf n d o:Nat):Int):=λo d=>by
  cases o with
  |none=>rfl
  |some i=>
   simp only[HT.cf]
   by_cases h:i<0
   .simp only[h,if_true]<;>omega
   .simp only[h,if_false]<;>omega
 rw[<-e lo 0,<-e hi n]
 rfl
def om (z:Str)(l u:Option (Int×Tok)):(⟨((slicePicked z l u none).filterMap (z.cps[·]?)).toArray⟩:Str)=iK z (l.map (·.1)) (u.map (·.1)):=by
 unfold slicePicked iK;simp only[Option.map_none,Option.getD_none];rw[j0,pick_run]
def k9 (z:Str)(l u:Option (Int×Tok))(h:(slicePicked z l u none).length=z.length):z=iK z (l.map (·.1)) (u.map (·.1)):=by
 unfold slicePicked at h;simp only[Option.map_none,Option.getD_none]at h;rw[j0,bv,List.length_range]at h;have h1:=HT.vC z.length z.length (nl _) (u.map (·.1));have h2:HT.cf z.length 0 (l.map (·.1))=0\/z.length=0:=by omega
 unfold iK;apply Str.ext';apply Array.toList_inj.mp;rcases h2 with h2|h2
 .rw[h,h2,drop_zero];exact(take_of_length_le (by simp[Str.length])).symm
 .have e:z.cps.toList=[]:=length_eq_zero_iff.mp (by simpa[Str.length] using h2);simp[e]
end L2
namespace L2
open PySem PySem.Spec PyProof.Rows
inductive di (K:W.Frag) (H:Hp):Nat->V->V->Bool->Prop where
 |flat {n:Nat}{x y:V}(fx:aw x=true) (fy:aw y=true):di K H n x y (je x y)
 |same {n:Nat}(a:Addr):di K H (n+1) (.ref a) (.ref a) true
 |ll {n:Nat}{a b:Addr}{xs ys:List V}{e:Nat->Bool}(ha:ax K H a xs) (hb:ax K H b ys) (hl:xs.length=ys.length) (h:∀ j x y,xs[j]? =some x->ys[j]? =some y->di K H (n+1) x y (e j)):di K H (n+2) (.ref a) (.ref b) ((List.range xs.length).all e)
 |tt {n:Nat}{a b:Addr}{xs ys:List V}{e:Nat->Bool}(ha:a9 K H a xs) (hb:a9 K H b ys) (h:∀ j x y,xs[j]? =some x->ys[j]? =some y->di K H (n+1) x y (e j)):di K H (n+2) (.ref a) (.ref b) ((List.range (min xs.length ys.length)).all e&&xs.length ==ys.length)
variable {A:Around}
section
variable {X:Cx}{Y:AE}{s:Shared}{U:St}{H:Hp}
def o5 {y x:V}{u v:Value}(ry:RelV y u)(rx:RelV x v)(fy:aw y=true)(fx:aw x=true):SeqAt.RcAt A s u v (je y x):=by
 cases y<;>first|cases fy|skip
 all_goals (cases x<;>first|cases fx|skip)
 all_goals (first|(obtain⟨t,rfl⟩:=ry)|cases ry)
 all_goals (first|(obtain⟨t',rfl⟩:=rx)|cases rx)
 .exact SeqAt.RcAt.none_none
 .exact SeqAt.RcAt.none_bool _
 .exact SeqAt.RcAt.none_int _ _
 .exact SeqAt.RcAt.none_str _ _
 .exact SeqAt.RcAt.bool_none _
 .exact SeqAt.RcAt.bool_bool _ _
 .exact SeqAt.RcAt.bool_int _ _ _
 .exact SeqAt.RcAt.bool_str _ _ _
 .exact SeqAt.RcAt.int_none _ _
 .exact SeqAt.RcAt.int_bool _ _ _
 .exact SeqAt.RcAt.int_int _ _ _ _
 .exact SeqAt.RcAt.int_str _ _ _ _
 .exact SeqAt.RcAt.str_none _ _
 .exact SeqAt.RcAt.str_bool _ _ _
 .exact SeqAt.RcAt.str_int _ _ _ _
 .exact SeqAt.RcAt.str_str _ _ _ _
def iY {y x:V}{u v:Value}(ry:RelV y u)(rx:RelV x v)(fy:aw y=true)(fx:aw x=true):SeqAt.RcNeAt A s u v (!je y x):=by
 cases y<;>first|cases fy|skip
 all_goals (cases x<;>first|cases fx|skip)
 all_goals (first|(obtain⟨t,rfl⟩:=ry)|cases ry)
 all_goals (first|(obtain⟨t',rfl⟩:=rx)|cases rx)
 .exact SeqAt.RcNeAt.none_none
 .exact SeqAt.RcNeAt.none_bool _
 .exact SeqAt.RcNeAt.none_int _ _
 .exact SeqAt.RcNeAt.none_str _ _
 .exact SeqAt.RcNeAt.bool_none _
 .exact SeqAt.RcNeAt.bool_bool _ _
 .exact SeqAt.RcNeAt.bool_int _ _ _
 .exact SeqAt.RcNeAt.bool_str _ _ _
 .exact SeqAt.RcNeAt.int_none _ _
 .exact SeqAt.RcNeAt.int_bool _ _ _
 .exact SeqAt.RcNeAt.int_int _ _ _ _
 .exact SeqAt.RcNeAt.int_str _ _ _ _
 .exact SeqAt.RcNeAt.str_none _ _
 .exact SeqAt.RcNeAt.str_bool _ _ _
 .exact SeqAt.RcNeAt.str_int _ _ _ _
 .exact SeqAt.RcNeAt.str_str _ _ _ _
def eqv_refl (I:Inv X Y U H s):∀ {n:Nat}{x y:V}{b:Bool},di X.K H n x y b->x=y->b=true:=by
 intro n x y b h
 induction h with
 | @flat n x y fx fy=>
  rintro rfl;cases x<;>first|(exact absurd fx Bool.false_ne_true)|simp[je]
 |same a=>intro _;rfl
 | @ll n a b xs ys e ha hb hl h ih=>
  intro z;cases z;have:=I.iN ha hb;subst this;rw[all_eq_true];intro j hj;have hj':j<xs.length:=mem_range.mp hj;exact ih j _ _ (io hj') (io hj') rfl
 | @tt n a b xs ys e ha hb h ih=>
  intro z;cases z;have:=I.fU ha hb;subst this;rw[beq_self_eq_true,Bool.and_true,Nat.min_self,all_eq_true];intro j hj;have hj':j<xs.length:=mem_range.mp hj;exact ih j _ _ (io hj') (io hj') rfl
def ic (I:Inv X Y U H s):∀ {n:Nat}{x y:V}{b:Bool},di X.K H n x y b->∀ {A:Around}{u v:Value},A.units+n<cLine->RelV x u->RelV y v->
  (SeqAt.EqAt A s u v b)/\(x=y\/SeqAt.RcAt A s u v b/\SeqAt.RcNeAt A s u v (!b)):=by
 intro n x y b h
 induction h with
 |flat fx fy=>intro A u v _ rx ry;exact⟨oM rx ry fx fy,.inr ⟨o5 rx ry fx fy,iY rx ry fx fy⟩⟩
 |same a=>intro A u v _ rx ry;cases rx;cases ry;exact⟨SeqAt.EqAt.same _,.inl rfl⟩
 | @ll n a b xs ys e ha hb hl h ih=>
  intro A u v hu rx ry;have hall:=di.ll ha hb hl h;cases rx;cases ry
  by_cases hab:a=b
  .subst hab;have z:=eqv_refl I hall rfl;rw[z];exact⟨SeqAt.EqAt.same _,.inl rfl⟩
  obtain⟨ia,ra,pa,_⟩:=I.list ha;obtain⟨ib,rb,pb,_⟩:=I.list hb;have e1:ia.toArray.size=xs.length:=by rw[f8,ra.length]
  have e2:ib.toArray.size=ys.length:=by rw[f8,rb.length]
  have he:∀ j (h1:j<ia.toArray.size) (h2:j<ib.toArray.size),SeqAt.EqAt A.in1 s ia.toArray[j] ib.toArray[j] (e j):=λj h1 h2=>by
   obtain⟨x1,f1,r1⟩:=dW ra h1;obtain⟨y1,f2,r2⟩:=dW rb h2;exact(ih j x1 y1 f1 f2 (by show A.units+1+(n+1)<cLine;omega) r1 r2).1
  have rc:=SeqAt.RcAt.lists (A:=A) pa.isList pb.isList (by rw[e1,e2,hl]) nofun he;have rn:=SeqAt.RcNeAt.lists (A:=A) pa.isList pb.isList (by rw[e1,e2,hl]) nofun he;rw[e1]at rc rn;exact⟨SeqAt.EqAt.of_refs hab rc,.inr ⟨rc,rn⟩⟩
 | @tt n a b xs ys e ha hb h ih=>
  intro A u v hu rx ry;have hall:=di.tt ha hb h;cases rx;cases ry
  by_cases hab:a=b
  .subst hab;have z:=eqv_refl I hall rfl;rw[z];exact⟨SeqAt.EqAt.same _,.inl rfl⟩
  obtain⟨ia,ra,pa,_⟩:=I.tuple ha;obtain⟨ib,rb,pb,_⟩:=I.tuple hb;have e1:ia.toArray.size=xs.length:=by rw[f8,ra.length]
  have e2:ib.toArray.size=ys.length:=by rw[f8,rb.length]
  have he:∀ j (h1:j<ia.toArray.size) (h2:j<ib.toArray.size),SeqAt.EqAt A.in1 s ia.toArray[j] ib.toArray[j] (e j):=λj h1 h2=>by
   obtain⟨x1,f1,r1⟩:=dW ra h1;obtain⟨y1,f2,r2⟩:=dW rb h2;exact(ih j x1 y1 f1 f2 (by show A.units+1+(n+1)<cLine;omega) r1 r2).1
  have rc:=SeqAt.RcAt.tuples (A:=A) (show s.heap.IsTuple a ia.toArray from pa) (show s.heap.IsTuple b ib.toArray from pb) nofun he;have rn:=SeqAt.RcNeAt.tuples (A:=A) (show s.heap.IsTuple a ia.toArray from pa) (show s.heap.IsTuple b ib.toArray from pb) nofun he;rw[e1,e2]at rc rn;exact⟨SeqAt.EqAt.of_refs hab rc,.inr ⟨rc,rn⟩⟩
@[irreducible] noncomputable def cH (K:W.Frag) (neg:Bool):R2:=λx y H Q=>False\/∃ n b,di K H n x y b/\n<=100/\(aw x=true\/x≠y\/(neg=false/\∃ a,x=.ref a/\nP K H a)\/(neg=true/\∃ a,x=.ref a/\n6 K H a))/\Q (.bl (if neg then !b else b)) H
def vk (hu:X.A.units+200<cLine):a4 X (compareOp .Eq) (cH X.K false):=by
 intro Y s U H x y v u Q I rx ry h;unfold cH at h;rcases h with z|⟨n,b,e,hn,hx,q⟩
 .exact z.elim
 rcases(ic I e (A:=X.A) nofun rx ry).2 with z|⟨z,_⟩
 .subst z;rcases hx with hx|hx
  .have z:=eqv_refl I e rfl;have r:=o5 (s:=s) (A:=X.A) rx ry hx hx;have z2:=eqv_refl I (di.flat (K:=X.K) (H:=H) (n:=0) hx hx) rfl;rw[z2]at r;rw[z]at q;exact PySem.EqBoolInt.of_rc r ⟨.bl true,H,I,rfl,q⟩
  rcases hx with hx|⟨_,a,rfl,hs⟩|⟨hx,_⟩
  .exact absurd rfl hx
  .have z:=eqv_refl I e rfl;rw[z]at q;cases rx;cases ry;exact PySem.EqBoolInt.of_rc (pJ (A:=X.A) I hs nofun) ⟨.bl true,H,I,rfl,q⟩
  .cases hx
 .exact PySem.EqBoolInt.of_rc z ⟨.bl b,H,I,rfl,q⟩
def uU (hu:X.A.units+200<cLine):a4 X (compareOp .NotEq) (cH X.K true):=by
 intro Y s U H x y v u Q I rx ry h;unfold cH at h;rcases h with z|⟨n,b,e,hn,hx,q⟩
 .exact z.elim
 rcases(ic I e (A:=X.A) nofun rx ry).2 with z|⟨_,z⟩
 .subst z;rcases hx with hx|hx
  .have z:=eqv_refl I e rfl;have r:=iY (s:=s) (A:=X.A) rx ry hx hx;have z2:=eqv_refl I (di.flat (K:=X.K) (H:=H) (n:=0) hx hx) rfl;rw[z2]at r;rw[z]at q;exact PySem.EqBoolInt.of_rcne r ⟨.bl false,H,I,rfl,q⟩
  rcases hx with hx|⟨hx,_⟩|⟨_,a,rfl,hs⟩
  .exact absurd rfl hx
  .cases hx
  .have z:=eqv_refl I e rfl;rw[z]at q;cases rx;cases ry;exact PySem.EqBoolInt.of_rcne (rf (A:=X.A) I hs nofun) ⟨.bl false,H,I,rfl,q⟩
 .exact PySem.EqBoolInt.of_rcne z ⟨.bl (!b),H,I,rfl,q⟩
end
@[irreducible] noncomputable def rQ (K:W.Frag) (a b:Addr) (H:Hp) (Q:VK):Prop:=(∃ xs ys,H a=some (.lst xs)/\H b=some (.lst ys)/\xs.length+ys.length<=100000/\∀ p,H p=none->Q (.ref p) (upd H p (.lst (xs++ys))))\/False
@[irreducible] noncomputable def qo (K:W.Frag) (a:Addr) (k:Int) (H:Hp) (Q:VK):Prop:=(∃ xs,H a=some (.lst xs)/\ -1000<=k/\k<=1000/\xs.length<=1000/\∀ p,H p=none->Q (.ref p) (upd H p (.lst (pc k.toNat xs).flatten)))\/False
abbrev vm (K:W.Frag):R2:=λx y H Q=>match x,y with
 | .int i,.int j=>Q (.int (i+j)) H
 | .str a,.str b=>a.length+b.length<=100000/\Q (.str (a++b)) H
 | .ref a,.ref b=>rQ K a b H Q
 |_,_=>False
abbrev tI:R2:=λx y H Q=>match x,y with
 | .int i,.int j=>Q (.int (i-j)) H
 |_,_=>False
abbrev uz (K:W.Frag):R2:=λx y H Q=>match x,y with
 | .int i,.int j=>lr i j/\Q (.int (i*j)) H
 | .ref a,.int k=>qo K a k H Q
 |_,_=>False
abbrev t4:R2:=λx y H Q=>match x,y with
 | .int i,.int j=>(0<j/\j<1073741824)/\Q (.int (i / j)) H
 |_,_=>False
abbrev tP:R2:=λx y H Q=>match x,y with
 | .int i,.int j=>0<j/\Q (.int (i % j)) H
 |_,_=>False
abbrev vx:R2:=λx y H Q=>match x,y with
 | .int i,.int j=>pZ i j/\Q (.int (i ^ j.toNat)) H
 |_,_=>False
abbrev uF (K:W.Frag)(op:Operator):R2:=match op with
 | .Add=>vm K
 | .Sub=>tI
 | .Mult=>uz K
 | .FloorDiv=>t4
 | .Mod=>tP
 | .Pow=>vx
 |_=>λ_ _ _ _=>False
section
variable {X:Cx}
def cY {n:Nat}(h:n<=1000000):n<=bm:=by rw[sizeLine_eq];omega
def ug (op:Operator):a4 X (binaryOp op) (uF X.K op):=by
 intro Y s U H x y v u Q I rx ry h;cases op with
 |Add=>
  have h':vm X.K x y H Q:=h;unfold vm at h'
  split at h'
  .exact uG Y s U H _ _ v u Q I rx ry ⟨_,_,rfl,rfl,h'⟩
  .exact jS Y s U H _ _ v u Q I rx ry ⟨_,_,rfl,rfl,cY nofun,h'.2⟩
  .unfold rQ at h';rcases h' with⟨xs,ys,ha,hb,hz,q⟩|h'
   .exact uE Y s U H _ _ v u Q I rx ry ⟨_,_,xs,ys,rfl,rfl,ha,hb,cY nofun,q⟩
   .exact h'.elim
  .exact h'.elim
 |Sub=>
  have h':tI x y H Q:=h;unfold tI at h'
  split at h'
  .exact vw Y s U H _ _ v u Q I rx ry ⟨_,_,rfl,rfl,h'⟩
  .exact h'.elim
 |Mult=>
  have h':uz X.K x y H Q:=h;unfold uz at h'
  split at h'
  .exact uf Y s U H _ _ v u Q I rx ry ⟨_,_,rfl,rfl,h'.1,h'.2⟩
  .rename_i k;unfold qo at h';rcases h' with⟨xs,ha,h1,h2,hz,q⟩|h'
   .refine vA Y s U H _ _ v u Q I rx ry ⟨_,k,xs,rfl,rfl,ha,by omega,by omega,cY ?_,q⟩;have:xs.length*k.toNat<=1000*1000:=Nat.mul_le_mul hz nofun
    omega
   .exact h'.elim
  .exact h'.elim
 |FloorDiv=>
  have h':t4 x y H Q:=h;unfold t4 at h'
  split at h'
  .exact qB Y s U H _ _ v u Q I rx ry ⟨_,_,rfl,rfl,h'.1,h'.2⟩
  .exact h'.elim
 |Mod=>
  have h':tP x y H Q:=h;unfold tP at h'
  split at h'
  .exact vS Y s U H _ _ v u Q I rx ry ⟨_,_,rfl,rfl,h'.1,h'.2⟩
  .exact h'.elim
 |Pow=>
  have h':vx x y H Q:=h;unfold vx at h'
  split at h'
  .exact ua Y s U H _ _ v u Q I rx ry ⟨_,_,rfl,rfl,h'.1,h'.2⟩
  .exact h'.elim
 |_=>exact(show False from h).elim
abbrev kU (f:Int->Int->Bool):R2:=λx y H Q=>match x,y with
 | .int i,.int j=>Q (.bl (f i j)) H
 |_,_=>False
@[irreducible] noncomputable def sx (K:W.Frag) (neg:Bool):R2:=λx y H Q=>match y with
 | .ref p=>(∃ xs,(ax K H p xs\/a9 K H p xs)/\aw x=true/\xs.all aw=true/\Q (.bl (if neg then !yh x xs else yh x xs)) H)\/False\/(neg=false/\∃ D i,qq K p D/\x=.str i/\Q (.bl (D.lookup i).isSome) H)\/False
 | .str j=>∃ i,x=.str i/\Q (.bl (if neg then !(!(Builtin.Str.occurrences j i 0 j.length 1).isEmpty) else !(Builtin.Str.occurrences j i 0 j.length 1).isEmpty)) H
 |_=>False
@[irreducible] noncomputable def pE (neg:Bool):R2:=λx y H Q=>match y with
 | .non=>Q (.bl (if neg then !decide (x=.non) else decide (x=.non))) H
 | .bl b=>False
 | .ref b=>False
 |_=>False
abbrev iM (K:W.Frag)(op:CmpOp):R2:=match op with
 | .Eq=>cH K false
 | .NotEq=>cH K true
 | .Lt=>kU λi j=>decide (i<j)
 | .LtE=>kU λi j=>decide (i<=j)
 | .Gt=>kU λi j=>decide (j<i)
 | .GtE=>kU λi j=>decide (j<=i)
 | .In=>sx K false
 | .NotIn=>λ_ _ _ _=>False
 | .Is=>pE false
 | .IsNot=>pE true
def gY {f:Int->Int->Bool}{op:CmpOp}(ho:a4 X (compareOp op) (qx λi j=>.bl (f i j))):a4 X (compareOp op) (kU f):=by
 intro Y s U H x y v u Q I rx ry h;unfold kU at h
 split at h
 .exact ho Y s U H _ _ v u Q I rx ry ⟨_,_,rfl,rfl,h⟩
 .exact h.elim
def vT (hu:X.A.units+200<cLine)(op:CmpOp):a4 X (compareOp op) (iM X.K op):=by
 cases op with
 |Eq=>exact vk hu
 |NotEq=>exact uU hu
 |Lt=>exact gY xm
 |LtE=>exact gY wA
 |Gt=>exact gY xD
 |GtE=>exact gY xb
 |In=>
  intro Y s U H x y v u Q I rx ry h;have h':sx X.K false x y H Q:=h;unfold sx at h'
  split at h'
  .rcases h' with⟨xs,hx,f1,f2,q⟩|g|⟨_,D,i,g,rfl,q⟩|z
   .exact kX Y s U H _ _ v u Q I rx ry ⟨_,xs,rfl,hx,f1,f2,q⟩
   .exact g.elim
   .obtain⟨t,rfl⟩:=rx;cases ry;exact wN I g λs3 I3=>⟨.bl _,H,I3,rfl,q⟩
   .exact z.elim
  .obtain⟨i,rfl,q⟩:=h';exact lb Y s U H _ _ v u Q I rx ry ⟨_,_,rfl,rfl,q⟩
  .exact h'.elim
 |NotIn=>exact λ_ _ _ _ _ _ _ _ _ _ _ _ h=>(show False from h).elim
 |Is=>
  intro Y s U H x y v u Q I rx ry h;have h':pE false x y H Q:=h;unfold pE at h'
  split at h'
  .exact uB Y s U H _ _ v u Q I rx ry ⟨rfl,h'⟩
  .exact h'.elim
  .exact h'.elim
  .exact h'.elim
 |IsNot=>
  intro Y s U H x y v u Q I rx ry h;have h':pE true x y H Q:=h;unfold pE at h'
  split at h'
  .exact qY Y s U H _ _ v u Q I rx ry ⟨rfl,h'⟩
  .exact h'.elim
  .exact h'.elim
  .exact h'.elim
@[irreducible] noncomputable def kD (K:W.Frag):R2:=λx y H Q=>match x with
 | .ref p=>(∃ xs i v,y=.int i/\(ax K H p xs\/a9 K H p xs)/\fR xs i=some v/\Q v H)\/(∃ v,uC H p y (some v)/\Q v H)\/∃ D j w,qq K p D/\y=.str j/\D.lookup j=some w/\Q (.str w) H
 | .str z=>∃ i c,y=.int i/\z.length<=100000/\fR z.cps.toList i=some c/\Q (.str ⟨#[c]⟩) H
 |_=>False
def jJ (hu:X.A.units+200<cLine):vX X (kD X.K):=by
 intro value slice Y s U H x y v u Q I rx ry h hs;unfold kD at h
 split at h
 .rcases h with⟨xs,i,w,rfl,hx,ha,q⟩|⟨w,g,q⟩|⟨D,j,w,g,rfl,hw,q⟩
  .rcases hx with hx|hx
   .exact qH value slice Y s U H _ _ v u Q I rx ry ⟨_,xs,i,w,rfl,rfl,hx,ha,q⟩ hs
   .exact vf value slice Y s U H _ _ v u Q I rx ry ⟨_,xs,i,w,rfl,rfl,hx,ha,q⟩ hs
  .cases rx;exact tail_any (ie I g) PySem.F.slot_dict_getitem.lookup (k7 nofun I g ry λw' s3 I3 rw'=>⟨w,H,I3,rw',q⟩) hs
  .cases rx;obtain⟨t,rfl⟩:=ry;exact tail_any (gG I g).typeIs PySem.F.slot_dict_getitem.lookup (vi I g hw λt' s3 I3=>⟨.str w,H,I3,⟨_,rfl⟩,q⟩) hs
 .obtain⟨i,c,rfl,hz,ha,q⟩:=h;exact vn value slice Y s U H _ _ v u Q I rx ry ⟨_,i,c,rfl,rfl,cY nofun,ha,q⟩ hs
 .exact h.elim
@[irreducible] noncomputable def lq:lS:=λo i v H Q=>match o with
 | .ref p=>(∃ xs k j,i=.int k/\H p=some (.lst xs)/\lG xs.length k=some j/\Q (upd H p (.lst (xs.set j v))))\/∃ H4,xf H p i v H4/\Q H4
 |_=>False
def kB (hu:X.A.units+200<cLine):pH X lq:=by
 intro Y s U H o i v ov iv u Q I ro ri rv h;unfold lq at h
 split at h
 .rcases h with⟨xs,k,j,rfl,hp,hj,q⟩|⟨H4,g,q⟩
  .exact set_list Y s U H _ _ v ov iv u Q I ro ri rv ⟨_,xs,k,j,rfl,rfl,hp,hj,q⟩
  .cases ro;exact lW nofun I g ri rv λs4 I4=>⟨H4,I4,q⟩
 .exact h.elim
def j9 {v:Value}{o:Option Int}(p:IsPart v o):∃ l:Option (Int×Tok),v=partValue l:=by
 cases p with
 |none=>exact⟨none,rfl⟩
 |int i t=>exact⟨some (i,t),rfl⟩
abbrev wX:V->Option Int->Option Int->Hp->VK->Prop:=λx lo hi H Q=>∃ z,x=.str z/\z.length<=100000/\Q (.str (iK z lo hi)) H
def tf {p:Option Int}{l:Option (Int×Tok)}(h:IsPart (partValue l) p):l.map (·.1)=p:=by
 cases l with
 |none=>cases h;rfl
 |some x=>obtain⟨i,t⟩:=x;cases h;rfl
def vQ:wm X wX:=by
 intro Y s U H x v vl vu lo hi sl Q I rx hs pl pu h;obtain⟨z,rfl,h0,q⟩:=h;obtain⟨t,rfl⟩:=rx;obtain⟨l,rfl⟩:=j9 pl;obtain⟨u,rfl⟩:=j9 pu;have el:=tf pl;have eu:=tf pu;refine⟨"str",_,PySem.F.slot_str_getitem.lookup,typeIs_str _ _ _,wpAny_getItem_str_slice (l:=l) (u:=u) (st:=none) hs rfl ?_⟩;unfold sliceMade
 split
 .rename_i hw;have e:=k9 z l u (by simpa using hw);rw[el,eu]at e;exact⟨.str z,H,I,⟨_,rfl⟩,by rw[<-e]at q;exact q⟩
 .rw[om,el,eu];exact⟨cY (Nat.le_trans (mF z lo hi) (Nat.le_trans h0 (by decide))),⟨.str _,H,I.tok _,⟨_,rfl⟩,q⟩⟩
@[irreducible] noncomputable def sR (K:W.Frag):V->Option Int->Option Int->Hp->VK->Prop:=λx lo hi H Q=>match x with
 | .ref a=>(∃ xs,ax K H a xs/\∀ p,H p=none->Q (.ref p) (upd H p (.lst (hX xs lo hi))))\/False
 | .str z=>wX (.str z) lo hi H Q
 |_=>False
def vj:wm X (sR X.K):=by
 intro Y s U H x v vl vu lo hi sl Q I rx hs pl pu h;unfold sR at h
 split at h
 .rcases h with⟨xs,hx,q⟩|h
  .exact rJ Y s U H _ v vl vu lo hi sl Q I rx hs pl pu ⟨_,xs,rfl,hx,q⟩
  .exact h.elim
 .exact vQ Y s U H _ v vl vu lo hi sl Q I rx hs pl pu h
 .exact h.elim
end
end L2
namespace L3
open PySem L2
set_option genSizeOf false
inductive Bf where
 |len|list|tuple|int|str|min|max|abs|all|any|dict|sum
 deriving DecidableEq
inductive Lm where
 |append|extend|insert|pop|clear|reverse|count
 deriving DecidableEq
inductive Sm where
 |join|split|starts
 deriving DecidableEq
inductive Cl where
 |own (c:Nat)|ty (n:String)
mutual
inductive Ex where
 |v (i:Nat)|int (i:Int)|bl (b:Bool)|non|str (x:Str)|gl (x:Str)
 |bin (op:Operator) (a b:Ex)|neg (a:Ex)|not (a:Ex)|and (a b:Ex)|or (a b:Ex)
 |cmp (op:CmpOp) (a b:Ex)|cmp2 (o1 o2:CmpOp) (a b c:Ex)|cmp3 (o1 o2 o3:CmpOp) (a b c d:Ex)
 |ife (c:Tx) (a b:Ex)|tup (es:cz)|lst (es:cz)|ix (a i:Ex)|sl (a:Ex) (lo hi:xY)
 |fld (a:Ex) (f:Str)|call (f:Nat) (es:cz)|meth (a:Ex) (m:Str) (es:cz)|lm (m:Lm) (a:Ex) (es:cz)|make (c:Nat) (es:cz)|bini (es:cz)|cini (c:Nat) (es:cz)
 |bf (b:Bf) (es:cz)|sm (m:Sm) (a b:Ex)|isi (a:Ex) (c:Cl)|lc (elt:Ex) (sel:List Nat) (it:sV)|lci (elt:Ex) (c:Tx) (sel:List Nat) (it:sV)|lct (elt:Ex) (n:Nat) (sel:List Nat) (it:sV)|lcu (elt:Ex) (c:Tx) (n:Nat) (sel:List Nat) (it:sV)|dnew|up (a:Ex)|dzip (a b:Ex)|isiT (a:Ex) (cs:List Nat)|vals (tp:Bool) (a:Ex)|mk0 (c:Nat)|disp (ks:List Str) (es:cz)|lix (a b:Ex)|rev (a b:Ex)|dget (a k d:Ex)
inductive Tx where
 |not (a:Tx)|and (a b:Tx)|or (a b:Tx)|cmp (op:CmpOp) (a b:Ex)|cmp2 (o1 o2:CmpOp) (a b c:Ex)|val (e:Ex)
inductive cz where
 |nil|cons (e:Ex) (es:cz)
inductive xY where
 |no|yes (e:Ex)
inductive sV where
 |rng1 (a:Ex)|rng2 (a b:Ex)|rng3 (a b c:Ex)|enm (a:Ex)|enf (a:Ex)|seq (a:Ex)|zip (a b:Ex)|zip3 (a b c:Ex)
end
inductive yi where
 |nm (i:Nat)|tp (is:List Nat)|nt (i:Nat) (is:List Nat)
mutual
inductive Sx where
 |asg (i:Nat) (e:Ex)|asgT (is:List Nat) (e:Ex)|par (is:List Nat) (es:cz)|sub (o i v:Ex)|fld (o:Ex) (f:Str) (v:Ex)
 |aug (i:Nat) (op:Operator) (e:Ex)|augS (o i:Ex) (op:Operator) (e:Ex)|augF (o:Ex) (f:Str) (op:Operator) (e:Ex)
 |ret (e:Ex)|retN|pass|brk|cont|expr (e:Ex)
 |ife (c:Tx) (a b:fv)|whl (c:Tx) (b:fv)|for (t:yi) (it:sV) (b:fv)|rais (e:Ex)|tryx (b:fv) (hs:pG)
inductive fv where
 |nil|cons (s:Sx) (r:fv)
inductive pG where
 |nil|cons (c:Nat) (i:Nat) (b:fv) (hs:pG)
end
structure aO where
 ps:List Str
 N:List Str
 dfl:List V
 body:fv
/-- what of the text never changes. gfn,gcl:the global names of defs and classes,by number;gbl:built-in names that are not shadowed;gbi:classes of exceptions whose __init__ is the built-in one;na:class and name that no class of it has;
  me:class,name,def;ini:class,its __init__;oc,xc:plain classes,classes of exceptions;sub,subT:isinstance -/
structure Tab where
 fns:List aO
 gfn:List (Str×Nat)
 gcl:List (Str×Nat)
 gbl:List Str
 gbi:List Str
 na:List (Nat×Str)
 me:List ((Nat×Str)×Nat)
 ini:List (Nat×Nat)
 ini0:List Nat
 inip:List Nat
 oc:List Nat
 xc:List Nat
 sub:List ((Nat×Nat)×Bool)
 subT:List ((Nat×String)×Bool)
 subB:List ((String×String)×Bool)
 subO:List ((String×Nat)×Bool)
 cin:List (Nat×Nat):=[]
structure Rt where
 K:W.Frag
 fad:Nat->Addr
 cad:Nat->Addr
 gl:Str->Option V
structure Gx where
 T:Tab
 R:Rt
 Ψ:Nat->Sp
 cm:Bool
@[irreducible] noncomputable def dE (c:Bool) (A B:Prop):Prop:=match c with
 |true=>A
 |false=>B
def bD (c:Bool)(A B:Prop):dE c A B=(if c=true then A else B):=by unfold dE;cases c<;>rfl
abbrev uj (K:W.Frag)(x:V)(H:Hp)(Q:Bool->Hp->Prop):Prop:=match x with
 | .bl k=>Q k H
 |y=>∃ k,rE K y H k/\Q k H
abbrev tyName:V->Hp->Option String
 | .non,_=>some "NoneType"
 | .bl _,_=>some "bool"
 | .int _,_=>some "int"
 | .str _,_=>some "str"
 | .ref a,H=>match H a with
  |some (.lst _)=>some "list"
  |some (.tup _)=>some "tuple"
  |some (.dK _)=>some "dict"
  |some (.fq _ (.dK _))=>some "dict"
  |_=>none
 |_,_=>none
@[irreducible] noncomputable def fA (G:Gx) (b:Bf) (vs:List V) (H:Hp) (Q:VK):Prop:=match b with
 | .len=>∃ x n,vs=[x]/\xP G.R.K x H n/\Q (.int n) H
 | .list=>(∃ p ys,vs=[.ref p]/\(ax G.R.K H p ys\/a9 G.R.K H p ys)/\∀ l,H l=none->Q (.ref l) (upd H l (.lst ys)))\/(G.cm=true/\∃ p kvs,vs=[.ref p]/\Rd H p (.dK kvs)/\∀ l,H l=none->Q (.ref l) (upd H l (.lst (kvs.map (λkv=>kV kv.1)))))
 | .tuple=>∃ p ys,vs=[.ref p]/\((ax G.R.K H p ys/\∀ l,H l=none->Q (.ref l) (upd H l (.tup ys)))\/(a9 G.R.K H p ys/\Q (.ref p) H))
 | .int=>((∃ i,vs=[.int i]/\Q (.int i) H)\/∃ k,vs=[.bl k]/\Q (.int (if k then 1 else 0)) H)\/∃ z n,vs=[.str z]/\PySem.intText? z=some n/\z.length<=640/\Q (.int n) H
 | .str=>(∃ i,vs=[.int i]/\i.natAbs.log2<1920/\Q (.str (toString i)) H)\/∃ z,vs=[.str z]/\Q (.str z) H
 | .min=>False
 | .max=>False
 | .abs=>False
 | .all=>G.cm=true/\∃ p,∃ bs:List Bool,vs=[.ref p]/\ax G.R.K H p (bs.map V.bl)/\Q (.bl (bs.all id)) H
 | .any=>False
 | .dict=>False
 | .sum=>False
@[irreducible] noncomputable def qb (m:Lm) (p:Addr) (xs:List V) (vs:List V) (H:Hp) (Q:VK):Prop:=match m with
 | .append=>∃ y,vs=[y]/\xs.length<=10000/\Q .non (upd H p (.lst (xs++[y])))
 | .extend=>∃ b zs,vs=[.ref b]/\H b=some (.lst zs)/\xs.length+zs.length<=10000/\Q .non (upd H p (.lst (xs++zs)))
 | .insert=>False
 | .pop=>False
 | .clear=>vs=[]/\Q .non (upd H p (.lst []))
 | .reverse=>False
 | .count=>False
abbrev dflt (G:Gx)(f n:Nat):List V:=match G.T.fns[f]? with
 |some d=>d.dfl.drop (n+d.dfl.length-d.ps.length)
 |none=>[]
abbrev cz.len:cz->Nat
 | .nil=>0
 | .cons _ es=>es.len+1
abbrev nW (G:Gx)(H:Hp)(a:Addr)(i:Nat):Prop:=(G.T.oc.contains i=true/\∃ dx fs,H a=some (.ins (G.R.cad i) dx fs))\/(G.T.xc.contains i=true/\∃ dx fs fr,H a=some (.exc (G.R.cad i) dx fs fr))
@[irreducible] noncomputable def iQ (G:Gx) (c:Cl) (x:V) (H:Hp) (Q:VK):Prop:=match c with
 | .ty n=>(∃ t b,tyName x H=some t/\G.T.subB.lookup (t,n)=some b/\Q (.bl b) H)\/∃ a i b,x=.ref a/\nW G H a i/\G.T.subT.lookup (i,n)=some b/\Q (.bl b) H
 | .own j=>(∃ t b,tyName x H=some t/\G.T.subO.lookup (t,j)=some b/\Q (.bl b) H)\/∃ a i b,x=.ref a/\nW G H a i/\G.T.sub.lookup (i,j)=some b/\Q (.bl b) H
@[irreducible] noncomputable def iH (G:Gx) (f:Str) (x:V) (H:Hp) (Q:VK):Prop:=∃ a i fs v,x=.ref a/\((G.T.oc.contains i=true/\∃ dx,H a=some (.ins (G.R.cad i) dx fs))\/(G.T.xc.contains i=true/\∃ dx fr,H a=some (.exc (G.R.cad i) (some dx) fs fr)))/\
 G.T.na.contains (i,f)=true/\fs.lookup f=some v/\Q v H
@[irreducible] noncomputable def sW (G:Gx) (f:Str) (x y:V) (H:Hp) (Q:Hp->Prop):Prop:=∃ a i,x=.ref a/\G.T.na.contains (i,f)=true/\
 ((∃ dx fs,G.T.oc.contains i=true/\H a=some (.ins (G.R.cad i) dx fs)/\fs.length<1000/\Q (upd H a (.ins (G.R.cad i) dx (a3 f y fs))))\/
  (∃ d fs fr,G.T.xc.contains i=true/\H a=some (.exc (G.R.cad i) (some d) fs fr)/\fs.length<1000/\Q (upd H a (.exc (G.R.cad i) (some d) (a3 f y fs) fr)))\/
  (∃ fr,G.T.xc.contains i=true/\H a=some (.exc (G.R.cad i) none [] fr)/\∀ d,H d=none->Q (upd (upd H d (.own a)) a (.exc (G.R.cad i) (some d) [(f,y)] fr))))
abbrev xp (op:Operator)(x y:V)(H:Hp)(Q:VK):Prop:=match op,x,y with
 | .Add,.int i,.int j=>Q (.int (i+j)) H
 | .Sub,.int i,.int j=>Q (.int (i-j)) H
 |_,_,_=>False
@[irreducible] noncomputable def l6 (K:W.Frag) (x y:V) (H:Hp) (Q:VK):Prop:=match x,y with
 | .ref p,.int i=>∃ xs v,ax K H p xs/\0<=i/\xs[i.toNat]? =some v/\Q v H
 |_,_=>False
abbrev qj (U:St):List Nat->List V->St
 |i::is,x::xs=>qj (U.set i (some x)) is xs
 |_,_=>U
@[irreducible] noncomputable def rp (K:W.Frag) (m:Sm) (z:Str) (y:V) (H:Hp) (Q:VK):Prop:=match m with
 | .join=>rJoin K (.str z) [y] H Q
 | .split=>jN (.str z) [y] H Q
 | .starts=>g4 (.str z) [y] H Q
@[irreducible] noncomputable def pX (xs:List V) (H:Hp) (Q:VK):Prop:=xs.length<=10000/\∀ p,H p=none->Q (.ref p) (upd H p (.lst xs))
@[irreducible] noncomputable def lC (xs:List V) (H:Hp) (Q:VK):Prop:=xs.length<=10000/\∀ p,H p=none->Q (.ref p) (upd H p (.tup xs))
@[irreducible] noncomputable def gU (K:W.Frag) (p:Addr) (H:Hp) (R:It->Hp->Prop):Prop:=((∃ xs,ax K H p xs)/\R (vZ K p) H)\/((∃ xs,a9 K H p xs)/\R (vW K p) H)\/False
@[irreducible] noncomputable def lA (te:TE) (J:It) (σ₀:St) (H1:Hp) (Q:VK):Prop:=LC te J σ₀ H1 Q
def pd: @lA= @LC:=by
 funext te J U H Q
 unfold lA
 rfl
@[irreducible] noncomputable def yS (tc:TT) (te:TE) (J:It) (σ₀:St) (H1:Hp) (Q:VK):Prop:=LCg (cW 0) tc te J σ₀ H1 Q
def t9: @yS= @LCg (cW 0):=by
 funext tc te J U H Q
 unfold yS
 rfl
abbrev gl (is:List Nat):qZ:=λvs U H Q=>vs.length=is.length/\Q (qj U is vs) H
@[irreducible] noncomputable def LCt (K:W.Frag) (n:Nat) (te:TE) (J:It) (σ₀:St) (H1:Hp) (Q:VK):Prop:=LCg (rP K n (gl (List.range n))) yes te J σ₀ H1 Q
def uQ {K:W.Frag}{n:Nat}:LCt K n=LCg (rP K n (gl (List.range n))) yes:=by
 funext te J U H Q
 unfold LCt
 rfl
abbrev vz:List Str->List V->List (Key×V)
 |k::ks,x::xs=>(.inr k,x)::vz ks xs
 |_,_=>[]
@[irreducible] noncomputable def j8 (ks:List Str) (p:Addr) (xs:List V) (H:Hp) (Q:VK):Prop:=H p=some (.dK [])/\Q (.ref p) (upd H p (.dK (cq [] (vz ks xs))))
mutual
noncomputable def wE (G:Gx):Ex->St->Hp->VK->XK->Prop
 | .v i,U,H,Q,_=>match U[i]? with
  |some (some x)=>Q x H
  |_=>False
 | .int i,_,H,Q,_=>Q (.int i) H
 | .bl b,_,H,Q,_=>Q (.bl b) H
 | .non,_,H,Q,_=>Q .non H
 | .str x,_,H,Q,_=>Q (.str x) H
 | .gl x,_,H,Q,_=>match G.R.gl x with
  |some v=>Q v H
  |none=>False
 | .bin op a b,U,H,Q,E=>wE G a U H (λx H1=>wE G b U H1 (λy H2=>uF G.R.K op x y H2 Q) E) E
 | .neg a,U,H,Q,E=>wE G a U H (λx H1=>match x with| .int i=>Q (.int (-i)) H1|_=>False) E
 | .not a,U,H,Q,E=>wE G a U H (λx H1=>match x with| .bl c=>Q (.bl (!c)) H1|_=>False) E
 | .and a b,U,H,Q,E=>wE G a U H (λx H1=>match x with| .bl c=>dE c (wE G b U H1 Q E) (Q (.bl false) H1)|_=>False) E
 | .or a b,U,H,Q,E=>wE G a U H (λx H1=>match x with| .bl c=>dE c (Q (.bl true) H1) (wE G b U H1 Q E)|_=>False) E
 | .cmp op a b,U,H,Q,E=>wE G a U H (λx H1=>wE G b U H1 (λy H2=>iM G.R.K op x y H2 Q) E) E
 | .cmp2 o1 o2 a b c,U,H,Q,E=>wE G a U H (λx H1=>wE G b U H1 (λy H2=>iM G.R.K o1 x y H2 λz H3=>match z with| .bl k=>dE k (wE G c U H3 (λw H4=>iM G.R.K o2 y w H4 Q) E) (Q (.bl false) H3)|_=>False) E) E
 | .cmp3 o1 o2 o3 a b c d,U,H,Q,E=>False
 | .ife c a b,U,H,Q,E=>wT G c U H (λk H1=>dE k (wE G a U H1 Q E) (wE G b U H1 Q E)) E
 | .tup es,U,H,Q,E=>wEs G es U H (λxs H1=>lC xs H1 Q) E
 | .lst es,U,H,Q,E=>wEs G es U H (λxs H1=>pX xs H1 Q) E
 | .ix a i,U,H,Q,E=>wE G a U H (λx H1=>wE G i U H1 (λy H2=>kD G.R.K x y H2 Q) E) E
 | .sl a lo hi,U,H,Q,E=>wE G a U H (λx H1=>wO G lo U H1 (λl H2=>wO G hi U H2 (λu H3=>sR G.R.K x l u H3 Q) E) E) E
 | .fld a f,U,H,Q,E=>wE G a U H (λx H1=>iH G f x H1 Q) E
 | .call f es,U,H,Q,E=>G.cm=true/\wEs G es U H (λvs H1=>G.Ψ f (vs++dflt G f es.len) H1 Q E) E
 | .meth a m es,U,H,Q,E=>G.cm=true/\wE G a U H (λx H1=>∃ p i dx fs f,x=.ref p/\H1 p=some (.ins (G.R.cad i) dx fs)/\fs.lookup m=none/\G.T.me.lookup (i,m)=some f/\
   wEs G es U H1 (λvs H2=>G.Ψ f (x::(vs++dflt G f (es.len+1))) H2 Q E) E) E
 | .lm m a es,U,H,Q,E=>wE G a U H (λx H1=>∃ p xs0,x=.ref p/\H1 p=some (.lst xs0)/\wEs G es U H1 (λvs H2=>∃ xs,H2 p=some (.lst xs)/\qb m p xs vs H2 Q) E) E
 | .make c es,U,H,Q,E=>G.cm=true/\match G.T.ini.lookup c with
  |none=>G.T.ini0.contains c=true/\wEs G es U H (λvs H1=>vs.length=1/\∀ x,H1 x=none->Q (.ref x) (upd H1 x (.exc (G.R.cad c) none [] true))) E
  |some f=>if G.T.xc.contains c=true then wEs G es U H (λvs H1=>vs.length<=1000/\∀ x,H1 x=none->G.Ψ f (.ref x::(vs++dflt G f (es.len+1))) (upd H1 x (.exc (G.R.cad c) none [] true)) (λv H2=>v=.non/\Q (.ref x) H2) E) E
   else wEs G es U H (λvs H1=>∀ x dx,H1 x=none->H1 dx=none->dx≠x->G.Ψ f (.ref x::(vs++dflt G f (es.len+1))) (upd (upd H1 dx (.own x)) x (.ins (G.R.cad c) dx [])) (λv H2=>v=.non/\Q (.ref x) H2) E) E
 | .bini es,U,H,Q,E=>wEs G es U H (λvs H1=>∃ a i dx fs fr v,vs=[.ref a,v]/\H1 a=some (.exc (G.R.cad i) dx fs fr)/\G.T.xc.contains i=true/\Q .non H1) E
 | .cini c es,U,H,Q,E=>False
 | .bf b es,U,H,Q,E=>wEs G es U H (λvs H1=>fA G b vs H1 Q) E
 | .isi a c,U,H,Q,E=>wE G a U H (λx H1=>iQ G c x H1 Q) E
 | .lc elt sel it,U,H,Q,E=>G.cm=true/\wI G it U H (λJ H1=>lA (λσ' H' Q'=>wE G elt σ' H' Q' (λ_ _=>False)) J (none::dI U sel) H1 Q) E
 | .lci elt c sel it,U,H,Q,E=>False
 | .lct elt n sel it,U,H,Q,E=>False
 | .lcu elt c n sel it,U,H,Q,E=>False
 | .dnew,_,H,Q,_=>False
 | .sm m a b,U,H,Q,E=>wE G a U H (λx H1=>∃ z,x=.str z/\wE G b U H1 (λy H2=>rp G.R.K m z y H2 Q) E) E
 | .up a,U,H,Q,E=>False
 | .isiT a cs,U,H,Q,E=>False
 | .mk0 c,_,H,Q,_=>False
 | .disp ks es,U,H,Q,E=>∀ p,H p=none->wEs G es U (upd H p (.dK [])) (λxs H2=>j8 ks p xs H2 Q) E
 | .dget a k d,U,H,Q,E=>False
 | .rev a b,U,H,Q,E=>False
 | .lix a b,U,H,Q,E=>False
 | .vals tp a,U,H,Q,E=>False
 | .dzip a b,U,H,Q,E=>False
noncomputable def wT (G:Gx):Tx->St->Hp->(Bool->Hp->Prop)->XK->Prop
 | .not a,U,H,Q,E=>wT G a U H (λc H1=>Q (!c) H1) E
 | .and a b,U,H,Q,E=>wT G a U H (λc H1=>dE c (wT G b U H1 Q E) (Q false H1)) E
 | .or a b,U,H,Q,E=>wT G a U H (λc H1=>dE c (Q true H1) (wT G b U H1 Q E)) E
 | .cmp op a b,U,H,Q,E=>wE G a U H (λx H1=>wE G b U H1 (λy H2=>iM G.R.K op x y H2 λz H3=>match z with| .bl k=>Q k H3|_=>False) E) E
 | .cmp2 o1 o2 a b c,U,H,Q,E=>wE G a U H (λx H1=>wE G b U H1 (λy H2=>iM G.R.K o1 x y H2 λz H3=>match z with| .bl k=>dE k (wE G c U H3 (λw H4=>iM G.R.K o2 y w H4 λz H5=>match z with| .bl k=>Q k H5|_=>False) E) (Q false H3)|_=>False) E) E
 | .val e,U,H,Q,E=>wE G e U H (λx H1=>uj G.R.K x H1 Q) E
noncomputable def wEs (G:Gx):cz->St->Hp->(List V->Hp->Prop)->XK->Prop
 | .nil,_,H,Q,_=>Q [] H
 | .cons e es,U,H,Q,E=>wE G e U H (λx H1=>wEs G es U H1 (λxs H2=>Q (x::xs) H2) E) E
noncomputable def wO (G:Gx):xY->St->Hp->(Option Int->Hp->Prop)->XK->Prop
 | .no,_,H,Q,_=>Q none H
 | .yes e,U,H,Q,E=>wE G e U H (λx H1=>match x with| .int i=>Q (some i) H1|_=>False) E
noncomputable def wI (G:Gx):sV->St->Hp->(It->Hp->Prop)->XK->Prop
 | .rng1 a,U,H,R,E=>wE G a U H (λx H1=>match x with| .int j=>-(2 ^ 62)<=j/\j<2 ^ 62/\R (sr 0 j.toNat) H1|_=>False) E
 | .rng2 a b,U,H,R,E=>wE G a U H (λx H1=>wE G b U H1 (λy H2=>match x,y with| .int i,.int j=>(-(2 ^ 62)<=i/\i<2 ^ 62/\ -(2 ^ 62)<=j/\j<2 ^ 62)/\R (sr i (j-i).toNat) H2|_,_=>False) E) E
 | .rng3 a b c,U,H,R,E=>False
 | .enm a,U,H,R,E=>False
 | .enf a,U,H,R,E=>False
 | .seq a,U,H,R,E=>wE G a U H (λx H1=>match x with| .ref p=>gU G.R.K p H1 R| .str z=>R (vI z) H1|_=>False) E
 | .zip a b,U,H,R,E=>False
 | .zip3 a b c,U,H,R,E=>False
end
abbrev yx (D:Ends)(f:St->Hp->Prop):Ends:={ D with nx:=f }
abbrev wL (D:Ends)(N:St->Hp->Prop):Ends:={ D with nx:=N,ct:=N,bk:=D.nx }
abbrev zZ (D:Ends)(i:Nat):Ends:={ nx:=λσ' H'=>D.nx (σ'.set i none) H',rt:=D.rt,bk:=λσ' H'=>D.bk (σ'.set i none) H',ct:=λσ' H'=>D.ct (σ'.set i none) H' }
abbrev wG (U:St)(t:yi)(K:W.Frag)(x:V)(H:Hp)(Q:St->Prop):Prop:=match t with
 | .nm i=>Q (U.set i (some x))
 | .tp is=>∃ a xs,x=.ref a/\(a9 K H a xs\/ax K H a xs)/\xs.length=is.length/\Q (qj U is xs)
 | .nt i is=>∃ a y b ys,x=.ref a/\a9 K H a [y,.ref b]/\a9 K H b ys/\ys.length=is.length/\Q (qj (U.set i (some y)) is ys)
@[irreducible] noncomputable def lV (J:It) (D:Ends) (F:(St->Hp->Prop)->V->St->Hp->Prop) (U:St) (H1:Hp):Prop:=∃ W:Nat->Nat->St->Hp->Prop,(∃ m,W 0 m U H1)/\∀ i m U H,W i m U H->
 (J.stop i H/\D.nx U H)\/(J.go i H/\∃ N:St->Hp->Prop,(∀ σ' H',N σ' H'->∃ m',m'<m/\W (i+1) m' σ' H')/\∀ x H',J.yld i H x H'->F N x U H')
mutual
noncomputable def wS:Sx->Gx->Ends->(St->XK)->St->Hp->Prop
 | .asg i e,G,D,E,U,H=>wE G e U H (λx H1=>D.nx (U.set i (some x)) H1) (E U)
 | .asgT is e,G,D,E,U,H=>False
 | .par is es,G,D,E,U,H=>False
 | .sub o i v,G,D,E,U,H=>wE G v U H (λy H1=>wE G o U H1 (λov H2=>wE G i U H2 (λiv H3=>lq ov iv y H3 (λH4=>D.nx U H4)) (E U)) (E U)) (E U)
 | .fld o f v,G,D,E,U,H=>wE G v U H (λy H1=>wE G o U H1 (λx H2=>sW G f x y H2 (λH3=>D.nx U H3)) (E U)) (E U)
 | .aug i op e,G,D,E,U,H=>False
 | .augS o i op e,G,D,E,U,H=>wE G o U H (λov H1=>wE G i U H1 (λiv H2=>l6 G.R.K ov iv H2 (λx H3=>wE G e U H3 (λy H4=>xp op x y H4 (λz H5=>lq ov iv z H5 (λH6=>D.nx U H6))) (E U))) (E U)) (E U)
 | .augF o f op e,G,D,E,U,H=>wE G o U H (λx H1=>iH G f x H1 (λu H2=>wE G e U H2 (λy H3=>xp op u y H3 λz H4=>sW G f x z H4 (λH5=>D.nx U H5)) (E U))) (E U)
 | .ret e,G,D,E,U,H=>wE G e U H D.rt (E U)
 | .retN,_,D,_,_,H=>False
 | .pass,_,D,_,U,H=>False
 | .brk,_,D,_,U,H=>False
 | .cont,_,D,_,U,H=>False
 | .expr e,G,D,E,U,H=>wE G e U H (λ_ H1=>D.nx U H1) (E U)
 | .ife c a b,G,D,E,U,H=>wT G c U H (λk H1=>dE k (wB a G D E U H1) (wB b G D E U H1)) (E U)
 | .whl c b,G,D,E,U,H=>False
 | .for t it b,G,D,E,U,H=>G.cm=true/\wI G it U H (λJ H1=>lV J D (λN x U H'=>wG U t G.R.K x H' λσ2=>wB b G (wL D N) E σ2 H') U H1) (E U)
 | .rais e,G,_,E,U,H=>G.cm=true/\wE G e U H (λv H1=>∃ a i dx fs,v=.ref a/\H1 a=some (.exc (G.R.cad i) dx fs true)/\G.T.xc.contains i=true/\E U a (upd H1 a (.exc (G.R.cad i) dx fs false))) (E U)
 | .tryx b hs,G,D,_,U,H=>False
noncomputable def wB:fv->Gx->Ends->(St->XK)->St->Hp->Prop
 | .nil,_,D,_,U,H=>D.nx U H
 | .cons s r,G,D,E,U,H=>wS s G (yx D λσ1 H1=>wB r G D E σ1 H1) E U H
noncomputable def wH:pG->Gx->Ends->St->Addr->Hp->Prop
 | .nil,_,_,_,_,_=>False
 | .cons c i b hs,G,D,U,e,H=>∃ j dx fs k,H e=some (.exc (G.R.cad j) dx fs false)/\G.T.xc.contains j=true/\G.T.sub.lookup (j,c)=some k/\
   dE k (wB b { G with cm:=false } (zZ D i) (λ_ _ _=>False) (U.set i (some (.ref e))) H)
    (wH hs G D U e H)
end
end L3
namespace L3
open PySem PySem.Spec L2 PyProof.Rows
structure Sn where
 T:Tab
 sc:Scope
 N:List Str
abbrev Sn.lP (S:Sn)(x:Str):Bool:=decide (S.sc.names.lookup x=some .globalImplicit)&& !(x ==("__debug__":Str))
abbrev Sn.xB (S:Sn)(x:Str):Bool:=(decide (S.sc.names.lookup x=some .local)||decide (S.sc.names.lookup x=some .cell)||decide (S.sc.names.lookup x=some .free))&& !(x ==("__debug__":Str))&& !(x ==("__classdict__":Str))
abbrev Sn.loc (S:Sn)(i:Nat)(x:Str):Bool:=decide (S.N[i]? =some x)&&(decide (S.sc.names.lookup x=some .local)||decide (S.sc.names.lookup x=some .cell))
abbrev jP:Expr->Bool
 | .ListComp .. | .SetComp .. | .DictComp ..=>false
 |_=>true
abbrev bx:Expr->Bool
 | .Set ..=>false
 |_=>true
abbrev bV:Expr->Bool
 | .Slice ..=>false
 |_=>true
abbrev bY:Expr->Bool
 | .Call (.Name _ _) [] [] _=>false
 |_=>true
abbrev plainT:Expr->Bool
 | .UnaryOp .Not _ _| .BoolOp .. | .IfExp .. | .Compare ..=>false
 |_=>true
abbrev nr:Bf->String
 | .len=>"len"| .list=>"list"| .tuple=>"tuple"| .int=>"int"| .str=>"str"| .min=>"min"| .max=>"max"| .abs=>"abs"| .all=>"all"| .any=>"any"| .dict=>"dict"| .sum=>"sum"
abbrev pj:Lm->String
 | .append=>"append"| .extend=>"extend"| .insert=>"insert"| .pop=>"pop"| .clear=>"clear"| .reverse=>"reverse"| .count=>"count"
abbrev nJ:Sm->String
 | .join=>"join"| .split=>"split"| .starts=>"startswith"
abbrev dU:List String:=["int","bool","str","list","tuple","dict","ValueError"]
abbrev rg (S:Sn):Cl->Expr->Bool
 | .own c,.Name x _=>S.lP x&&decide (S.T.gcl.lookup x=some c)
 | .ty n,.Name x _=>S.lP x&&decide (x=(n:Str))&&S.T.gbl.contains x&&dU.contains n
 |_,_=>false
abbrev b9 (outer inner:Scope):Scope:=
 { inner with names:=inner.names.map λ(n,k)=>if(k ==.free&&outer.kind ==.function&&outer.names.lookup n ==some .cell) then(n,.cell) else(n,k) }
abbrev c6 (S:Sn)(scope:Scope)(xs:List Str)(sel:List Nat):Bool:=
 decide (scope.kind=.function)&&decide (S.sc.kind=.function)&&scope.names.all (λy=>y.2 != .cell&&(y.2 != .local||decide (scope.names.lookup y.1=some .local))&&(y.2 != .free||(decide (S.sc.names.lookup y.1=some .cell))))&&xs.all (λx=>decide (scope.names.lookup x=some .local))&&
 sel.all (λi=>match S.N[i]? with|some y=>decide (S.sc.names.lookup y=some .cell)&&decide ((b9 S.sc scope).names.lookup y=some .cell)|none=>false)&&decide ((xs++sel.filterMap λi=>S.N[i]?).Nodup)
abbrev xg:List Expr->List Str
 | .Name x _::r=>x::xg r
 |_=>[]
abbrev nA (S:Sn):List Nat->List Expr->Bool
 | [],[]=>true
 |i::is,.Name x _::r=>decide (S.N[i]? =some x)&&decide (S.sc.names.lookup x=some .local)&&nA S is r
 |_,_=>false
abbrev gN:List Str->List (Option Expr)->Bool
 | [],[]=>true
 |k::ks,some (.Constant (.str x) _ _)::r=>decide (k=x)&&gN ks r
 |_,_=>false
mutual
noncomputable def mE (S:Sn):Ex->Expr->Bool
 | .v i,e=>match e with| .Name x _=>decide (S.N[i]? =some x)&&S.xB x|_=>false
 | .int i,e=>match e with| .Constant y1 _ _=>(match y1 with| .int j=>decide (i=j)|_=>false)|_=>false
 | .bl i,e=>match e with| .Constant y1 _ _=>(match y1 with| .bool j=>decide (i=j)|_=>false)|_=>false
 | .non,e=>match e with| .Constant y1 _ _=>(match y1 with| .none=>true|_=>false)|_=>false
 | .str i,e=>match e with| .Constant y1 _ _=>(match y1 with| .str j=>decide (i=j)|_=>false)|_=>false
 | .gl x,e=>match e with| .Name y _=>decide (x=y)&&S.lP y|_=>false
 | .bin op a b,e=>match e with| .BinOp a' op' b' _=>decide (op=op')&&mE S a a'&&mE S b b'|_=>false
 | .neg a,e=>match e with| .UnaryOp y1 a' _=>(match y1 with| .USub=>mE S a a'|_=>false)|_=>false
 | .not a,e=>match e with| .UnaryOp y1 a' _=>(match y1 with| .Not=>mE S a a'|_=>false)|_=>false
 | .and a b,e=>match e with| .BoolOp y1 y2 p=>(match y1 with| .And=>(match y2 with|a'::b'::r=>mE S a a'&&mE S b (match r with| []=>b'|_=>.BoolOp .And (b'::r) p)|_=>false)|_=>false)|_=>false
 | .or a b,e=>match e with| .BoolOp y1 y2 p=>(match y1 with| .Or=>(match y2 with|a'::b'::r=>mE S a a'&&mE S b (match r with| []=>b'|_=>.BoolOp .Or (b'::r) p)|_=>false)|_=>false)|_=>false
 | .cmp op a b,e=>match e with| .Compare a' y1 y2 _=>(match y1 with| [op']=>(match y2 with| [b']=>decide (op=op')&&mE S a a'&&mE S b b'&&bx b'|_=>false)|_=>false)|_=>false
 | .cmp2 o1 o2 a b c,e=>match e with| .Compare a' y1 y2 _=>(match y1 with| [p1,p2]=>(match y2 with| [b',c']=>decide (o1=p1)&&decide (o2=p2)&&mE S a a'&&mE S b b'&&mE S c c'&&bx c'|_=>false)|_=>false)|_=>false
 | .cmp3 o1 o2 o3 a b c d,_=>false
 | .ife c a b,e=>match e with| .IfExp c' a' b' _=>mT S c c'&&mE S a a'&&mE S b b'|_=>false
 | .tup es,e=>match e with| .Tuple es' _ _=>dJ S es es'|_=>false
 | .lst es,e=>match e with| .List es' _=>dJ S es es'|_=>false
 | .ix a i,e=>match e with| .Subscript a' i' _=>mE S a a'&&mE S i i'&&bV i'|_=>false
 | .sl a lo hi,e=>match e with| .Subscript a' y1 _=>(match y1 with| .Slice lo' hi' y2 _=>(match y2 with|none=>mE S a a'&&mO S lo lo'&&mO S hi hi'|_=>false)|_=>false)|_=>false
 | .fld a f,e=>match e with| .Attribute a' f' _=>mE S a a'&&decide (f=f')&&bY a'|_=>false
 | .call f es,e=>match e with| .Call y1 es' y2 _=>(match y1 with| .Name x _=>(match y2 with| []=>S.lP x&&decide (S.T.gfn.lookup x=some f)&&dJ S es es'|_=>false)|_=>false)|_=>false
 | .meth a m es,e=>match e with| .Call y1 es' y2 q=>(match y1 with| .Attribute a' m' p=>(match y2 with| []=>mE S a a'&&decide (m=m')&&dJ S es es'&&bY a'&&(p.endLine ==q.line)&&decide (es.len<20)|_=>false)|_=>false)|_=>false
 | .dget a k d,_=>false
 | .rev a b,_=>false
 | .lix a b,_=>false
 | .lm m a es,e=>match e with| .Call y1 es' y2 q=>(match y1 with| .Attribute a' m' p=>(match y2 with| []=>mE S a a'&&decide (m'=(pj m:Str))&&dJ S es es'&&bY a'&&(p.endLine ==q.line)&&decide (es.len<20)|_=>false)|_=>false)|_=>false
 | .make c es,e=>match e with| .Call y1 es' y2 _=>(match y1 with| .Name x _=>(match y2 with| []=>S.lP x&&decide (S.T.gcl.lookup x=some c)&&dJ S es es'|_=>false)|_=>false)|_=>false
 | .bini es,e=>match e with| .Call y1 es' y2 q=>(match y1 with| .Attribute y3 m p=>(match y3 with| .Name x _=>(match y2 with| []=>S.lP x&&decide (m=("__init__":Str))&&S.T.gbi.contains x&&dJ S es es'&&decide (es.len=2)&&(p.endLine ==q.line)|_=>false)|_=>false)|_=>false)|_=>false
 | .cini c es,_=>false
 | .bf b es,e=>match e with| .Call y1 es' y2 _=>(match y1 with| .Name x _=>(match y2 with| []=>S.lP x&&decide (x=(nr b:Str))&&S.T.gbl.contains x&&dJ S es es'&&decide (0<es.len)|_=>false)|_=>false)|_=>false
 | .isi a c,e=>match e with| .Call y1 y2 y3 _=>(match y1 with| .Name x _=>(match y3 with| []=>(match y2 with| [a',c']=>S.lP x&&decide (x=("isinstance":Str))&&S.T.gbl.contains x&&mE S a a'&&rg S c c'|_=>false)|_=>false)|_=>false)|_=>false
 | .lc elt sel it,e=>match e with| .ListComp elt' y1 scope _=>(match y1 with| [y2]=>(match y2 with|⟨y3,iter,y4,y5⟩=>(match y3 with| .Name x px=>(match y4 with| []=>(match y5 with|0=>c6 S scope [x] sel&&mI S it (.Name x px) iter&&mE { S with sc:=b9 S.sc scope,N:=x::sel.filterMap λi=>S.N[i]? } elt elt'&&bx iter|_=>false)|_=>false)|_=>false))|_=>false)|_=>false
 | .lci elt c sel it,_=>false
 | .lct elt n sel it,_=>false
 | .lcu elt c n sel it,_=>false
 | .dnew,_=>false
 | .sm m a b,e=>match e with| .Call y1 es' y2 q=>(match y1 with| .Attribute a' m' p=>(match y2 with| []=>(match es' with| [b']=>mE S a a'&&decide (m'=(nJ m:Str))&&mE S b b'&&notStar b'&&bY a'&&(p.endLine ==q.line)|_=>false)|_=>false)|_=>false)|_=>false
 | .up a,_=>false
 | .isiT a cs,_=>false
 | .mk0 c,_=>false
 | .disp ks es,e=>match e with| .Dict keys vals _=>gN ks keys&&dJ S es vals&&decide (es.len=ks.length)&&decide (0<ks.length)&&decide (ks.length<=15)|_=>false
 | .vals tp a,_=>false
 | .dzip a b,_=>false
noncomputable def mT (S:Sn):Tx->Expr->Bool
 | .not a,e=>match e with| .UnaryOp y1 a' _=>(match y1 with| .Not=>mT S a a'|_=>false)|_=>false
 | .and a b,e=>match e with| .BoolOp y1 y2 p=>(match y1 with| .And=>(match y2 with|a'::b'::r=>mT S a a'&&mT S b (match r with| []=>b'|_=>.BoolOp .And (b'::r) p)|_=>false)|_=>false)|_=>false
 | .or a b,e=>match e with| .BoolOp y1 y2 p=>(match y1 with| .Or=>(match y2 with|a'::b'::r=>mT S a a'&&mT S b (match r with| []=>b'|_=>.BoolOp .Or (b'::r) p)|_=>false)|_=>false)|_=>false
 | .cmp op a b,e=>match e with| .Compare a' y1 y2 _=>(match y1 with| [op']=>(match y2 with| [b']=>decide (op=op')&&mE S a a'&&mE S b b'&&bx b'|_=>false)|_=>false)|_=>false
 | .cmp2 o1 o2 a b c,e=>match e with| .Compare a' y1 y2 _=>(match y1 with| [p1,p2]=>(match y2 with| [b',c']=>decide (o1=p1)&&decide (o2=p2)&&mE S a a'&&mE S b b'&&mE S c c'&&bx c'|_=>false)|_=>false)|_=>false
 | .val e,e'=>mE S e e'&&plainT e'
noncomputable def dJ (S:Sn):cz->List Expr->Bool
 | .nil,es=>es.isEmpty
 | .cons e es,l=>match l with|e'::es'=>mE S e e'&&notStar e'&&dJ S es es'| []=>false
noncomputable def mO (S:Sn):xY->Option Expr->Bool
 | .no,o=>o.isNone
 | .yes e,o=>match o with|some e'=>mE S e e'|none=>false
noncomputable def mI (S:Sn):sV->Expr->Expr->Bool
 | .rng1 a,_,e=>match e with| .Call y1 y2 y3 _=>(match y1 with| .Name x _=>(match y3 with| []=>(match y2 with| [a']=>S.lP x&&decide (x=("range":Str))&&S.T.gbl.contains x&&mE S a a'&&notStar a'|_=>false)|_=>false)|_=>false)|_=>false
 | .rng2 a b,_,e=>match e with| .Call y1 y2 y3 _=>(match y1 with| .Name x _=>(match y3 with| []=>(match y2 with| [a',b']=>S.lP x&&decide (x=("range":Str))&&S.T.gbl.contains x&&mE S a a'&&mE S b b'&&notStar a'&&notStar b'|_=>false)|_=>false)|_=>false)|_=>false
 | .rng3 a b c,_,e=>false
 | .enm a,t,e=>false
 | .enf a,t,e=>false
 | .seq a,_,e=>mE S a e
 | .zip a b,t,e=>false
 | .zip3 a b c,t,e=>false
end
end L3
namespace L3
open PySem PySem.Spec L2
variable {e:Expr}
def plainT_ok (h:plainT e=true)(env:Env)(whole:Sem Value):isTrue e env whole=(do let v <-whole;standAt e.pos;holding [v] (truthy v)):=by
 cases e<;>first|rfl|(cases h)|skip
 case UnaryOp op a p=>cases op<;>first|rfl|cases h
def aS (h:bx e=true)(env:Env)(x:Value):foldedSetIterable e env x=pure x:=by
 cases e<;>first|rfl|cases h
def bH (h:bx e=true)(op:CmpOp):behindInMarks op e=false:=by
 cases e<;>first|rfl|cases h
def cX (h:jP e=true)(t:Option Expr)(n:Nat)(env:Env):swapsWith e t n env=pure false:=by
 cases e<;>first|rfl|cases h
variable {o:Expr}
def aM (h:bY o=true)(a:Str)(env:Env)(whole:Sem Value):attributeBase o a env whole=whole:=by
 cases o with
 |Call f as ks p=>
  cases f<;>first|rfl|skip
  case Name x q=>
   cases as with
   |nil=>cases ks with
    |nil=>cases h
    |cons k ks=>rfl
   |cons b bs=>rfl
 |_=>rfl
variable {b:Expr}
def jW (h:bV b=true):j7 b:=by
 intro o i;cases b<;>first|rfl|cases h
variable {X:Cx}
def PE.bb {t:TE}(h:PE X e t):PE X e (λU H R=>∃ Q,t U H Q/\∀ x H1,Q x H1->R x H1):=λY s U H R I ⟨Q,q,i⟩=>
 ak (h Y s U H Q I q) λ_ _ ⟨v,H',J,r,z⟩=>⟨v,H',J,r,i _ _ z⟩
variable {t:TT}
def PT.bb (h:PT X e t):PT X e (λU H R=>∃ Q,t U H Q/\∀ x H1,Q x H1->R x H1):=λY s U H R I ⟨Q,q,i⟩=>
 ak (h Y s U H Q I q) λ_ _ ⟨H',J,z⟩=>⟨H',J,i _ _ z⟩
def PA.bb {e:List Expr}{t:TA}(h:PA X e t):PA X e (λU H R=>∃ Q,t U H Q/\∀ x H1,Q x H1->R x H1):=λpos Y s U H R I ⟨Q,q,i⟩=>
 ak (h pos Y s U H Q I q) λ_ _ ⟨v,H',J,r,z⟩=>⟨v,H',J,r,i _ _ z⟩
def PE.imp {t t':TE}(h:PE X e t)(hi:∀ U H Q,t' U H Q->t U H Q):PE X e t':=λY s U H Q I q=>h Y s U H Q I (hi _ _ _ q)
def PT.imp {t':TT}(h:PT X e t)(hi:∀ U H Q,t' U H Q->t U H Q):PT X e t':=λY s U H Q I q=>h Y s U H Q I (hi _ _ _ q)
def PS.imp {e:Stmt}{t t':TS}(h:PS X e t)(hi:∀ D U H,t' D U H->t D U H):PS X e t':=λY s U H D I q=>h Y s U H D I (hi _ _ _ q)
structure nG (P:Program) (w:World) (K:W.Frag) (mg:AF) (base:Heap) (k:Nat) (f:Addr) (d:aO) (sp:Sp):Prop where
 fact:∃ fd,ba P w K mg base (nK P w) k f fd d.ps sp/\∀ j,∃ ds,Binds K fd d.ps ds/\Vals (d.dfl.drop j) ds
 own:∀ fd oc od osl,K.lookup f=some ⟨oc,od,.func fd,osl⟩->ba P w K mg base (nK P w) k f fd d.ps sp
structure p0 (K:W.Frag) (mg:AF) (T:Tab) (R:Rt):Prop where
 gfn:∀ x f,T.gfn.lookup x=some f->mg x=some (.ref (R.fad f))/\W.keepIn K (.ref (R.fad f))=true/\∃ d,T.fns[f]? =some d
 gcl:∀ x c,T.gcl.lookup x=some c->mg x=some (.ref (R.cad c))
 gbl:∀ x,T.gbl.contains x=true->mg x=none/\x≠"__name__"
 gbi:∀ x,T.gbi.contains x=true->∃ B,mg x=some (.ref B)/\zF K B
 gl:∀ x v,R.gl x=some v->∃ u,mg x=some u/\RelV v u
 na:∀ i f,T.na.contains (i,f)=true->bO K (R.cad i) f
 me:∀ i m f,T.me.lookup (i,m)=some f->rH K (R.cad i)/\Meth K (R.cad i) m (R.fad f)/\∃ d,T.fns[f]? =some d
 ini0:∀ c,T.ini0.contains c=true->uq K (R.cad c)
 inip:∀ c,T.inip.contains c=true->zM K (R.cad c)
 ini:∀ c f,T.ini.lookup c=some f->(∃ d,T.fns[f]? =some d)/\if T.xc.contains c=true then x6 K (R.cad c) (R.fad f) else Mk K (R.cad c) (R.fad f)
 oc:∀ c,T.oc.contains c=true->rH K (R.cad c)/\yE K (R.cad c)
 xc:∀ c,T.xc.contains c=true->aU K (R.cad c)/\ow K (R.cad c)
 sub:∀ i j b,T.sub.lookup (i,j)=some b->W.kitOne K (.ref (R.cad i)) (.ref (R.cad j))=some b/\(T.xc.contains i=true->W.mroIn K (R.cad i) (.ref (R.cad j))=some b/\aU K (R.cad j))
 subT:∀ i n b,T.subT.lookup (i,n)=some b->W.kitOne K (.ref (R.cad i)) (.type n)=some b
 subB:∀ t n b,T.subB.lookup (t,n)=some b->W.kitOne K (.type t) (.type n)=some b
 subO:∀ t j b,T.subO.lookup (t,j)=some b->W.kitOne K (.type t) (.ref (R.cad j))=some b
 cin:∀ c f,T.cin.lookup c=some f->Ab K (R.cad c) (R.fad f)/\∃ d,T.fns[f]? =some d
structure Gd (X:Cx) (G:Gx) (S:Sn) (k:Nat) (E:St->XK):Prop where
 hK:G.R.K=X.K
 hT:S.T=G.T
 sc:X.env.scope=S.sc
 N:X.N=S.N
 nd:S.N.Nodup
 pass:Passes (nK X.prog X.w) X E
 cm:G.cm=true->X.calm=true
 room:G.cm=true->aG (k+1) X.A
 un:X.A.units+200<cLine
 tab:p0 X.K X.mg G.T G.R
 fns:∀ f d,G.T.fns[f]? =some d->nG X.prog X.w X.K X.mg X.base k (G.R.fad f) d (G.Ψ f)
variable {x:Str}{l es:List Expr}
section
variable {X:Cx}{G:Gx}{S:Sn}{k:Nat}{E:St->XK}
def Gd.bin (g:Gd X G S k E)(op:Operator):a4 X (binaryOp op) (uF G.R.K op):=g.hK▸ug op
def Gd.cmp (g:Gd X G S k E)(op:CmpOp):a4 X (compareOp op) (iM G.R.K op):=g.hK▸vT g.un op
def Gd.glob (g:Gd X G S k E)(h:S.lP x=true):Gl X x/\(x ==("__debug__":Str))=false:=by
 unfold Sn.lP at h;simp only[lf,decide_eq_true_eq,Bool.not_eq_true']at h;refine⟨?_,h.2⟩;show X.env.scope.names.lookup x=_;rw[g.sc];exact h.1
def Gd.xB (g:Gd X G S k E)(h:S.xB x=true):xV X.env.scope x/\(x ==("__debug__":Str))=false/\(x ==("__classdict__":Str))=false:=by
 unfold Sn.xB at h;simp only[lf,Bool.or_eq_true,decide_eq_true_eq,Bool.not_eq_true']at h;refine⟨?_,h.1.2,h.2⟩;unfold xV;rw[g.sc];rcases h.1.1 with(h|h)|h
 .exact .inl h
 .exact .inr (.inl h)
 .exact .inr (.inr h)
def Gd.loc (g:Gd X G S k E){i:Nat}(h:S.loc i x=true):X.N[i]? =some x/\L2.Loc X.env.scope x:=by
 unfold Sn.loc at h;simp only[lf,Bool.or_eq_true,decide_eq_true_eq]at h;rw[g.N];refine⟨h.1,?_⟩;unfold L2.Loc;rw[g.sc];exact h.2
def av:∀ {es:cz}{l:List Expr},dJ S es l=true->∀ (env:Env) (pos:Pos),(backTo pos (bi l env)).any (·.1)=false
 | .nil,[],_,_,_=>rfl
 | .nil,_::_,h,_,_=>by cases(show false=true from h)
 | .cons e es,[],h,_,_=>by cases(show false=true from h)
 | .cons e es,e'::l,h,env,pos=>by
  have h:(mE S e e'&&notStar e'&&dJ S es l)=true:=h;simp only[lf]at h;rw[aa h.1.2];show((backTo pos (bi l env)).any (·.1))=false;exact av h.2 env pos
def g5:∀ {es:cz}{l:List Expr},dJ S es l=true->l.length=es.len
 | .nil,[],_=>rfl
 | .nil,_::_,h=>by cases(show false=true from h)
 | .cons e es,[],h=>by cases(show false=true from h)
 | .cons e es,e'::l,h=>by
  have h:(mE S e e'&&notStar e'&&dJ S es l)=true:=h;simp only[lf]at h;show l.length+1=es.len+1;rw[g5 h.2]
def aC {es:cz}(h:dJ S es (e::l)=true):notStar e=true/\∃ x es',es=.cons x es'/\dJ S es' l=true:=by
 cases es with
 |nil=>cases(show false=true from h)
 |cons x es'=>
  have h:(mE S x e&&notStar e&&dJ S es' l)=true:=h;simp only[lf]at h;exact⟨h.1.2,x,es',rfl,h.2⟩
def jY:∀ {es:cz}{l:List Expr},dJ S es l=true->es.len<20->∀ (env:Env) (cpos:Pos),methodCallForm (l.length+([]:List Keyword).length) (backTo cpos (bi l env)) (backToKw cpos (keywordEach [] env))=true:=by
 intro es l h hl env cpos;have h1:=av h env cpos;have h2:=g5 h;have h3:(backTo cpos (bi l env)).all (λx=>!x.1)=true:=by
  rw[all_eq_true];intro x hx;rw[any_eq_false]at h1;simpa using h1 x hx
 unfold methodCallForm;rw[h3,h2];simp[keywordEach,backToKw]
 omega
def fN {m:Str}{apos pos:Pos}{env:Env}(hb:bY o=true)(hf:methodCallForm (es.length+([]:List Keyword).length) (backTo pos (bi es env)) (backToKw pos (keywordEach [] env))=true)(hl:(apos.endLine ==pos.line)=true):
  eval (.Call (.Attribute o m apos) es [] pos) env=(do
   let ov <-eval o env
   standAt apos.atName
   let(f,first) <-holding [ov] (getMethod ov m (do return (<-importBound o env).getD true))
   callWith pos f first (backTo pos (bi es env)) (backToKw pos (keywordEach [] env))):=by
 show(do
  let ov <-attributeBase o m env (eval o env)
  standAt apos.atName
  methodCall o m apos pos env ov (es.length+([]:List Keyword).length) (backTo pos (bi es env)) (backToKw pos (keywordEach [] env)))=_
 rw[aM hb];unfold methodCall calleeOf methodCallPos;rw[hf,hl]
 rfl
def ng {es:cz}(h:dJ S es (e::l)=true)(hl:es.len<20)(env:Env)(cpos:Pos):
  ((backTo cpos (bi (e::l) env)).all (λx=>!x.1)&&(backToKw cpos (keywordEach [] env)).all (λx=>x.1.isSome)
   &&decide ((e::l).length+([]:List Keyword).length+(if([]:List Keyword).isEmpty then 0 else 1)<30))=true:=by
 have h1:=av h env cpos;have h2:=g5 h;have h3:(backTo cpos (bi (e::l) env)).all (λx=>!x.1)=true:=by
  rw[all_eq_true];intro x hx;rw[any_eq_false]at h1;simpa using h1 x hx
 rw[h3,h2];simp[keywordEach,backToKw]
 omega
def rX {b:Ex}{b':Expr}(h:mE S b b'=true)(n:notStar b'=true)(env:Env)(cpos:Pos):
  ((backTo cpos (bi [b'] env)).all (λx=>!x.1)&&(backToKw cpos (keywordEach [] env)).all (λx=>x.1.isSome)
   &&decide (([b']:List Expr).length+([]:List Keyword).length+(if([]:List Keyword).isEmpty then 0 else 1)<30))=true:=
 ng (es:=.cons b .nil) (by show(mE S b b'&&notStar b'&&true)=true;rw[h,n];rfl) (mo rfl) env cpos
end
variable {K:W.Frag}{H:Hp}{Y:AE}{a:Addr}
section
variable {X:Cx}{G:Gx}{S:Sn}{k:Nat}{E:St->XK}
def fM {x:V}{t:String}(h:tyName x H=some t):dh K H x (.type t):=by
 unfold tyName at h
 split at h
 .cases h;exact .non
 .cases h;exact .bl _
 .cases h;exact .int _
 .cases h;exact .str _
 .split at h
  .rename_i e;cases h;exact .lst e
  .rename_i e;cases h;exact .tup e
  .rename_i e;cases h;exact .dK (.inl e)
  .rename_i e;cases h;exact .dK (.inr ⟨_,e⟩)
  .cases h
 .cases h
def kF {s:Shared}{U:St}{Q:VK}{i:Nat}{b:Bool}{cv:Value}(g:Gd X G S k E)(I:Inv X Y U H s)(o:nW G H a i)
  (e:W.kitOne X.K (.ref (G.R.cad i)) cv=some b) (q:Q (.bl b) H):wpAny (model X.prog X.w) X.A (call (.builtin "isinstance") [.ref a,cv]) (EP X Y U Q) X.xe s:=by
 rcases o with⟨ho,dx,fs,ha⟩|⟨ho,dx,fs,fr,ha⟩
 .obtain⟨c,z⟩:=g.tab.oc i ho;exact c9 I (x:=.ref a) rfl (.ins ha c z.ha z.hn z.htk z.hm) e λtk=>⟨.bl b,H,I.tok _,rfl,q⟩
 .obtain⟨c,z⟩:=g.tab.xc i ho;exact mx I ha c z e λtk=>⟨.bl b,H,I.tok _,rfl,q⟩
def qO (g:Gd X G S k E)(j:Nat):bt X (.builtin "isinstance") (λvs H Q=>∃ x,vs=[x,.ref (G.R.cad j)]/\iQ G (.own j) x H Q):=by
 intro Y s U H xs us Q I r h;obtain⟨x,rfl,h⟩:=h;obtain⟨u,w',rfl,rx,rT⟩:=vals2 r;obtain rfl:w'=Value.ref (G.R.cad j):=rT;unfold iQ at h;rcases h with⟨t,b,ht,hb,q⟩|⟨a,i,b,rfl,ho,hb,q⟩
 .exact c9 I rx (fM ht) (g.tab.subO t j b hb) λtk=>⟨.bl b,H,I.tok _,rfl,q⟩
 .obtain rfl:u=Value.ref a:=rx;exact kF g I ho (g.tab.sub i j b hb).1 q
def ui (g:Gd X G S k E)(n:String):bt X (.builtin "isinstance") (λvs H Q=>∃ x,vs=[x,.ty n]/\iQ G (.ty n) x H Q):=by
 intro Y s U H xs us Q I r h;obtain⟨x,rfl,h⟩:=h;obtain⟨u,w',rfl,rx,rT⟩:=vals2 r;obtain rfl:w'=Value.type n:=rT;unfold iQ at h;rcases h with⟨t,b,ht,hb,q⟩|⟨a,i,b,rfl,ho,hb,q⟩
 .exact c9 I rx (fM ht) (g.tab.subB t n b hb) λtk=>⟨.bl b,H,I.tok _,rfl,q⟩
 .obtain rfl:u=Value.ref a:=rx;exact kF g I ho (g.tab.subT i n b hb) q
def rO {n:String}(h:dU.contains n=true):bootBuiltins (n:Str)=some (.type n):=by
 have h':n ∈ dU:=by simpa using h
 simp only[dU,le,not_mem_nil,or_false]at h';rcases h' with rfl|rfl|rfl|rfl|rfl|rfl|rfl<;>decide+kernel
abbrev zu (G:Gx):Cl->V
 | .own c=>.ref (G.R.cad c)
 | .ty n=>.ty n
def xy (g:Gd X G S k E){c:Cl}(h:rg S c e=true):PE X e (tC (zu G c)):=by
 unfold rg at h
 split at h
 .simp only[lf,decide_eq_true_eq]at h;obtain⟨hg,hd⟩:=g.glob h.1;exact ku hg (g.tab.gcl _ _ (g.hT▸h.2)) rfl hd
 .simp only[lf,decide_eq_true_eq]at h;obtain⟨⟨⟨h1,rfl⟩,h3⟩,h4⟩:=h;obtain⟨hg,hd⟩:=g.glob h1;obtain⟨hm,hn⟩:=g.tab.gbl _ (g.hT▸h3);exact pW hg hm (rO h4) rfl hn hd
 .cases h
def uh (g:Gd X G S k E)(c:Cl):bt X (.builtin "isinstance") (λvs H Q=>∃ x,vs=[x,zu G c]/\iQ G c x H Q):=by
 cases c with
 |own j=>exact qO g j
 |ty n=>exact ui g n
abbrev mU:Bf->Value
 | .len=>.builtin "len"| .list=>.type "list"| .tuple=>.type "tuple"| .int=>.type "int"| .str=>.type "str"| .min=>.builtin "min"| .max=>.builtin "max"| .abs=>.builtin "abs"| .all=>.builtin "all"| .any=>.builtin "any"| .dict=>.type "dict"| .sum=>.builtin "sum"
def rL (b:Bf):bootBuiltins (nr b:Str)=some (mU b):=by cases b<;>decide+kernel
def kH:∀ {bs:List Bool}{us:List Value},Vals (bs.map V.bl) us->PyProof.Rows.LSm.BoolsAre us bs
 | [],_,h=>by cases h;exact .nil
 |b::bs,_,h=>by
  cases h with
  |cons r1 r2=>
   obtain rfl:_=Value.bool b:=r1;exact .cons b (kH r2)
def k6 (hc:X.calm=true):bt X (.builtin "all") (λxs H Q=>∃ p,∃ bs:List Bool,xs=[.ref p]/\ax X.K H p (bs.map V.bl)/\Q (.bl (bs.all id)) H):=by
 intro Y s U H xs us Q I r h;obtain⟨p,bs,rfl,hq,q⟩:=h;obtain⟨u,rfl,rx⟩:=vals1 r;cases rx;obtain⟨its,r',pl,hz⟩:=I.list hq;have hb:=kH r';have hl:=pl.isList;have lt:p<s.heap.objs.size:=by obtain⟨_,e,_⟩:=hl;exact sn e
 refine call_all_walk (wpAny_pyIter_list hl ⟨s.heap.objs.size,[s.heap.objs.size,p],[s.heap.objs.size],its.toArray.size,_,_,λi=>(bs[i]?).getD true,rfl,
  Walks.list (A:=X.A.in1) (I.ok.hd hc) _ p (nb lt) its.toArray,⟨⟨_,ss _ rfl,rfl,rfl⟩,hl.push _⟩,λi v s' Q' E' hP hQ=>?_,λh' tk hk=>?_⟩)
 .obtain⟨b,e,rfl⟩:=hb.get i v (by simpa using hP);have hQ:Q' ((bs[i]?).getD _) s':=hQ;rw[e]at hQ;exact be hQ
 .have e:((List.range its.toArray.size).all λi=>(bs[i]?).getD true)=bs.all id:=by
   rw[f8,hb.length,PyProof.Rows.LSm.range_all]
  rw[e];exact⟨.bl _,H,I.kept (PyProof.Rows.LSm.kept_iter hk),rfl,q⟩
def xE (g:Gd X G S k E)(b:Bf):bt X (mU b) (fA G b):=by
 intro Y s U H xs us Q I r h;unfold fA at h;rw[g.hK]at h;cases b with
 |len=>exact l5 Y s U H _ us Q I r h
 |list=>
  rcases h with h|⟨hc,p,kvs,rfl,hp,q⟩
  .exact gq Y s U H _ us Q I r h
  .obtain⟨u,rfl,ru⟩:=vals1 r;cases ru;exact jA (g.cm hc) I hp q
 |tuple=>exact ft Y s U H _ us Q I r h
 |int=>
  rcases h with h|⟨z,n,rfl,hn,hl,q⟩
  .exact kR Y s U H _ us Q I r h
  .obtain⟨u,rfl,t,rfl⟩:=vals1 r;exact kZ hn hl ⟨.int n,H,I.tok _,⟨_,rfl⟩,q⟩
 |str=>
  rcases h with h|⟨z,rfl,q⟩
  .exact hJ Y s U H _ us Q I r h
  .obtain⟨u,rfl,t,rfl⟩:=vals1 r;exact PySem.P.str_of_str ⟨.str z,H,I,⟨_,rfl⟩,q⟩
 |min=>exact h.elim
 |max=>exact h.elim
 |abs=>exact h.elim
 |all=>exact k6 (g.cm h.1) Y s U H _ us Q I r h.2
 |any=>exact h.elim
 |dict=>exact h.elim
 |sum=>exact h.elim
abbrev u0:Lm->String
 | .append=>"list.append"| .extend=>"list.extend"| .insert=>"list.insert"| .pop=>"list.pop"| .clear=>"list.clear"| .reverse=>"list.reverse"| .count=>"list.count"
def ki (m:Lm):Slot "list" (pj m:Str) (u0 m):=by
 cases m
 .exact PySem.F.slot_list_append
 .exact PySem.F.slot_list_extend
 .exact PySem.F.slot_list_insert
 .exact PySem.F.slot_list_pop
 .exact PySem.F.slot_list_clear
 .exact PySem.F.slot_list_reverse
 .exact PySem.F.slot_list_count
def sU (m:Lm):typeOf (.builtin (u0 m))=pure (.type "method_descriptor"):=by cases m<;>rfl
abbrev Af (m:Lm):V->List V->Hp->VK->Prop:=λx vs H Q=>∃ p xs,x=.ref p/\H p=some (.lst xs)/\qb m p xs vs H Q
def sD (m:Lm):sN X (u0 m) (Af m):=by
 intro Y s U H x vs v us Q I rx rv h;obtain⟨p,xs,rfl,hp,h⟩:=h;unfold qb at h;cases m with
 |append=>
  obtain⟨y,rfl,h⟩:=h;exact dr Y s U H _ _ v us Q I rx rv ⟨p,xs,_,rfl,rfl,hp,Nat.lt_of_le_of_lt h.1 (by decide),h.2⟩
 |extend=>
  obtain⟨b,zs,rfl,hz,hl,q⟩:=h;exact lO Y s U H _ _ v us Q I rx rv ⟨p,_,xs,zs,rfl,rfl,hp,hz,cY nofun,q⟩
 |insert=>exact h.elim
 |pop=>exact h.elim
 |clear=>
  obtain⟨rfl,h⟩:=h;exact mY Y s U H _ _ v us Q I rx rv ⟨p,xs,rfl,rfl,hp,h⟩
 |reverse=>exact h.elim
 |count=>exact h.elim
abbrev vM:Sm->String
 | .join=>"str.join"| .split=>"str.split"| .starts=>"str.startswith"
def qF (m:Sm):Slot "str" (nJ m:Str) (vM m):=by
 cases m
 .exact PySem.F.slot_str_join
 .exact PySem.F.slot_str_split
 .exact PySem.F.slot_str_startswith
def xw (m:Sm):typeOf (.builtin (vM m))=pure (.type "method_descriptor"):=by cases m<;>rfl
abbrev zS (K:W.Frag)(m:Sm):V->List V->Hp->VK->Prop:=λx vs H Q=>∃ z y,x=.str z/\vs=[y]/\rp K m z y H Q
def xk (m:Sm):sN X (vM m) (zS X.K m):=by
 intro Y s U H x vs v us Q I rx rv h;obtain⟨z,y,rfl,rfl,h⟩:=h;unfold rp at h;cases m with
 |join=>exact qS Y s U H _ _ v us Q I rx rv h
 |split=>exact oo Y s U H _ _ v us Q I rx rv h
 |starts=>exact lh Y s U H _ _ v us Q I rx rv h
def nc {m:Str}{apos pos:Pos}{ta:TE}{t:TA}{pl:Sem Bool}{n:Nat}(g:Gd X G S k E)(hc:G.cm=true)(he:PE X o ta)(ha:PA X es t)
  (hnil:es=[]->∀ U H R,t U H R->R [] H) (hst:∀ e r,es=e::r->bi es X.env=(false,eval e X.env)::bi r X.env) (hpl:∀ e r,es=e::r->(backTo pos (bi r X.env)).any (·.1)=false)
  (ht:eval (.Call (.Attribute o m apos) es [] pos) X.env=(do
   let ov <-eval o X.env
   standAt apos.atName
   let(f,first) <-holding [ov] (getMethod ov m pl)
   callWith pos f first (backTo pos (bi es X.env)) (backToKw pos (keywordEach [] X.env)))):
  PE X (.Call (.Attribute o m apos) es [] pos) (λU H Q=>ta U H λx H1=>∃ p i dx fs f,x=.ref p/\H1 p=some (.ins (G.R.cad i) dx fs)/\fs.lookup m=none/\G.T.me.lookup (i,m)=some f/\
   t U H1 λvs H2=>G.Ψ f (x::(vs++dflt G f n)) H2 Q (E U)):=by
 intro Y s U H Q I h;refine W.methodCall_KW (pl:=pl) (ak (he Y s U H _ I h) λu s1 ⟨x,H1,I1,rx,a,i,dx,fs,f,ex,ea,l,hf,q⟩=>?_) ht;subst ex;obtain rfl:u=Value.ref a:=rx;obtain⟨c,hm,d,hd⟩:=g.tab.me i m f hf;obtain⟨fd,F,B⟩:=(g.fns f d hd).fact;have hr:aG k X.A:=(g.room hc).mono (Nat.le_succ _);obtain⟨ds,hb,hv⟩:∃ ds,Binds X.K fd d.ps ds/\Vals (dflt G f n) ds:=by
  unfold dflt;rw[hd];exact B _
 refine jw I1 ea c hm l ?_;cases es with
 |nil=>
  refine W.callWith_K0 (first:=[.ref a]) I1.aJ hm.kp ?_;exact gM (us:=[.ref a]) (vs:=[.ref a]) F hr hb hv g.pass I1 (.cons rfl .nil) (hnil rfl _ _ _ q)
 |cons e r=>
  refine W.callWith_K (first:=[.ref a]) (h₀:=X.base) I.ok.mod.kin hm.kp (ak (ha pos Y s1 U H1 _ I1 q) λus s2 ⟨vs,H2,I2,r,q2⟩=>⟨I2.aJ,?_⟩) (hst e r rfl) (hpl e r rfl);exact gM (us:=.ref a::us) (vs:=.ref a::vs) F hr hb hv g.pass I2 (.cons rfl r) q2
end
def r9 {α β:Type}{f:α->Option β}:∀ {l:List α}{j:Nat}{y:β},(∀ a ∈ l,(f a).isSome=true)->(l.filterMap f)[j]? =some y->∃ a,l[j]? =some a/\f a=some y
 | [],_,_,_,h=>by simp at h
 |a::l,j,y,hs,h=>by
  obtain⟨b,hb⟩:=Option.isSome_iff_exists.mp (hs a jp);rw[filterMap_cons,hb]at h;cases j with
  |zero=>simp at h;exact⟨a,rfl,by rw[hb,h]⟩
  |succ j=>
   simp at h;obtain⟨a',h1,h2⟩:=r9 (λa ha=>hs a (db _ ha)) h;exact⟨a',by simpa using h1,h2⟩
def oZ {α β:Type}{f:α->Option β}:∀ {l:List α},(∀ a ∈ l,(f a).isSome=true)->(l.filterMap f).length=l.length
 | [],_=>rfl
 |a::l,hs=>by
  obtain⟨b,hb⟩:=Option.isSome_iff_exists.mp (hs a jp);rw[filterMap_cons,hb];simp[oZ (λa ha=>hs a (db _ ha))]
abbrev d6 (env:Env):Str×NameKind->List (Str×Addr)->Sem (ForInStep (List (Str×Addr))):=λnk r=>do
 let cs:=r
 if(nk.2 ==NameKind.free)=true then do
  let a <-cellOf env nk.1
  pure (ForInStep.yield ((nk.1,a)::cs))
 else pure (ForInStep.yield cs)
def g8 {env:Env}:∀ (names:List (Str×NameKind)) (cs:List (Str×Addr)),(∀ y ∈ names,y.2=.free->∃ c,env.cells.lookup y.1=some c)->
  ∃ cl,(forIn names cs (d6 env):Sem _)=pure cl/\(∀ y c,cl.lookup y=some c->cs.lookup y=some c\/env.cells.lookup y=some c)/\(∀ y,(cs.lookup y).isSome=true->(cl.lookup y).isSome=true)/\∀ y ∈ names,y.2=.free->(cl.lookup y.1).isSome=true
 | [],cs,_=>⟨cs,rfl,λy c h=>.inl h,λy h=>h,λy hy=>absurd hy (by simp)⟩
 |(n,kd)::r,cs,h=>by
  by_cases hk:kd=.free
  .subst hk;obtain⟨c,hc⟩:=h (n,.free) jp rfl;obtain⟨cl,h1,h2,h3,h4⟩:=g8 r ((n,c)::cs) λy hy=>h y (db _ hy)
   have self:(((n,c)::cs).lookup n).isSome=true:=by simp[lookup_cons]
   refine⟨cl,?_,λy d q=>?_,λy q=>h3 y ?_,λy hy hf=>?_⟩
   .rw[forIn_cons];have e:d6 env (n,.free) cs=pure (ForInStep.yield ((n,c)::cs)):=by
     unfold d6;simp only[cellOf,hc]
     rfl
    rw[e];exact h1
   .rcases h2 y d q with q|q
    .rw[lookup_cons]at q
     by_cases e:y=n
     .subst e;simp at q;subst q;exact .inr hc
     .rw[show(y ==n)=false from beq_eq_false_iff_ne.mpr e]at q;exact .inl q
    .exact .inr q
   .rw[lookup_cons];cases(y ==n)<;>simp[q]
   .rcases le.mp hy with rfl|hy
    .exact h3 _ self
    .exact h4 y hy hf
  .obtain⟨cl,h1,h2,h3,h4⟩:=g8 r cs λy hy=>h y (db _ hy)
   refine⟨cl,?_,h2,h3,λy hy hf=>?_⟩
   .rw[forIn_cons];have e:d6 env (n,kd) cs=pure (ForInStep.yield cs):=by
     unfold d6;cases kd<;>first|rfl|exact absurd rfl hk
    rw[e];exact h1
   .rcases le.mp hy with rfl|hy
    .exact absurd hf hk
    .exact h4 y hy hf
variable {scope:Scope}
def rq {env:Env}(h:∀ y ∈ scope.names,y.2=.free->∃ c,env.cells.lookup y.1=some c):
  ∃ cl,closureFor scope env=pure cl/\(∀ y c,cl.lookup y=some c->env.cells.lookup y=some c)/\∀ y ∈ scope.names,y.2=.free->(cl.lookup y.1).isSome=true:=by
 obtain⟨cl,h1,h2,_,h4⟩:=g8 scope.names [] h;refine⟨cl,?_,λy c q=>(h2 y c q).resolve_left (by simp),h4⟩;have e:closureFor scope env=(forIn scope.names [] (d6 env) >>= λcs=>pure cs):=by
  unfold closureFor d6
  rfl
 rw[e,h1]
 rfl
variable {xs:List Str}{sel:List Nat}
section
variable {X:Cx}{G:Gx}{S:Sn}{k:Nat}{E:St->XK}
def i7 (g:Gd X G S k E)(scope:Scope):relabel scope X.env=b9 S.sc scope:=by
 unfold relabel b9 Env.kindOf;rw[g.sc]
def bh (g:Gd X G S k E)(ok:X.Ok)(h:c6 S scope xs sel=true):∃ cl,az X scope cl xs (sel.filterMap λi=>S.N[i]?) sel:=by
 unfold c6 at h;simp only[lf,decide_eq_true_eq,all_eq_true,Bool.or_eq_true,bne_iff_ne,ne_eq]at h;obtain⟨⟨⟨⟨⟨h1,h2⟩,h3⟩,h4⟩,h5⟩,h6⟩:=h;have hs:∀ i ∈ sel,(S.N[i]?).isSome=true:=λi hi=>by
  have:=h5 i hi
  split at this
  .rename_i e;rw[e];rfl
  .cases this
 obtain⟨cl,c1,c2,c3⟩:=rq (env:=X.env) (scope:=scope) λy hy hf=>ok.has y.1 (.inl (by
  show X.env.scope.names.lookup y.1=_;rw[g.sc];exact((h3 y hy).2).resolve_left λz=>z hf))
 refine⟨cl,⟨c1,c2,λy hy=>?_,h1,λy hy=>(h3 y hy).1.1,λy hy hl=>((h3 y hy).1.2).resolve_left λz=>z hl,h4,(oZ hs).symm,λj y hj=>?_,h6⟩⟩
 .have:∃ kd,(y,kd) ∈ scope.names/\kd=.free:=by
   rcases hy with hy|hy
   .obtain⟨kd,m,q⟩:=bp hy;rcases q with q|q
    .subst q;exact absurd rfl (h3 _ m).1.1
    .exact⟨kd,m,q.1⟩
   .obtain⟨kd,m,q⟩:=bp hy;rcases q with q|q
    .exact⟨kd,m,q.symm⟩
    .exact nomatch q.2
  obtain⟨kd,m,rfl⟩:=this;exact Option.isSome_iff_exists.mp (c3 _ m rfl)
 .obtain⟨i,hi,hn⟩:=r9 hs hj;have q:=h5 i (ci hi);rw[hn]at q;simp only[lf,decide_eq_true_eq]at q;refine⟨i,hi,by rw[g.N];exact hn,by rw[g.sc];exact q.1,by rw[i7 g];exact q.2⟩
def Gd.comp (g:Gd X G S k E){cl:List (Str×Addr)}(C:az X scope cl xs (sel.filterMap λi=>S.N[i]?) sel) (s:Shared) (H:Hp) (fp:List Addr):
  Gd (b6 X scope cl (xs++sel.filterMap λi=>S.N[i]?) s H fp) G { S with sc:=b9 S.sc scope,N:=xs++sel.filterMap λi=>S.N[i]? } k (λ_ _ _=>False) where
 hK:=g.hK
 hT:=g.hT
 sc:=i7 g scope
 N:=rfl
 nd:=C.nd
 pass:=λY U H s e s' I h=>by
  obtain⟨e,H',C,dx,fs,T,_,_,_,_,_,_,_,_,_,q⟩:=h;exact q.elim
 cm:=g.cm
 room:=g.room
 un:=g.un
 tab:=g.tab
 fns:=g.fns
def ir (env:Env):∀ {is:List Nat}{ts:List Expr},nA S is ts=true->(assignEach ts env).length=is.length/\(assignEach ts env).findIdx? (·.1)=none
 | [],[],_=>⟨rfl,rfl⟩
 | [],_::_,h=>by simp[nA]at h
 |_::_,[],h=>by simp[nA]at h
 |i::is,t::ts,h=>by
  cases t<;>simp[nA]at h
  rename_i x p;obtain⟨h1,h2⟩:=ir env h.2;have e:assignEach (.Name x p::ts) env=(false,assign (.Name x p) env)::assignEach ts env:=rfl;rw[e];refine⟨by simp[h1],?_⟩;rw[List.findIdx?_cons];simp[h2]
def kq (g:Gd X G S k E):∀ {is:List Nat}{ts:List Expr},nA S is ts=true->t6 X ts (gl is)
 | [],[],_=>λY s U H vs us Q I r h=>gX Y s U H vs us Q I r ⟨length_eq_zero_iff.mp h.1,by
   have:=h.2;have e:vs=[]:=length_eq_zero_iff.mp h.1;subst e;exact this⟩
 | [],_::_,h=>by simp[nA]at h
 |_::_,[],h=>by simp[nA]at h
 |i::is,t::ts,h=>by
  cases t<;>simp[nA]at h
  rename_i x p;have hl:X.env.scope.names.lookup x=some .local:=by rw[g.sc];exact h.1.2
  have h1:PG X (.Name x p) (cW i):=cN (by rw[g.N];exact g.nd) (by rw[g.N];exact h.1.1) (.inl hl) (.inr hl);have h2:=kq g h.2;intro Y s U H vs us Q I r q;refine cP h1 h2 rfl Y s U H vs us Q I r ?_;obtain⟨hl,q⟩:=q;cases vs with
  |nil=>simp at hl
  |cons v vs=>exact⟨v,vs,rfl,by simpa using hl,q⟩
def qi (g:Gd X G S k E)(hc:G.cm=true){n kt:Nat}{ts:List Expr}{pt:Pos}(h:nA S (List.range n) ts=true):PG X (.Tuple ts kt pt) (rP G.R.K n (gl (List.range n))):=by
 obtain⟨e1,e2⟩:=ir X.env h;rw[List.length_range]at e1;rw[g.hK];exact gu (g.cm hc) (kq g h) e1 e2
def pM {n:Nat}(h:xs.length=n):jb xs=pc n none:=by
 subst h;unfold jb;rw[List.map_const']
end
set_option maxHeartbeats 2000000
variable {r:List Expr}{p:Pos}{s1:Shared}{R:It->Hp->Prop}{keys:List (Option Expr)}
section
variable {G:Gx}{k:Nat}
def eE {o1 o2:CmpOp}{c:Expr}(h:bx c=true):lastMarks [o1,o2] [b,c]=false:=by
 show behindInMarks o2 c=false;exact bH h _
def nD {t:TE}(h:PE X (match r with| []=>b|_=>.BoolOp .And (b::r) p) t):PE X (.BoolOp .And (b::r) p) t:=by
 cases r with
 |nil=>exact mR h
 |cons c r=>exact h
def mw {t:TE}(h:PE X (match r with| []=>b|_=>.BoolOp .Or (b::r) p) t):PE X (.BoolOp .Or (b::r) p) t:=by
 cases r with
 |nil=>exact mR h
 |cons c r=>exact h
def sM {op:BoolOp}(h:PT X (.BoolOp op l p) t):PW X (.BoolOp op l p) t:=λwhole Y s U H Q I q=>by
 have:=h Y s U H Q I q;exact this
def oh (h:PT X (match r with| []=>b|_=>.BoolOp .And (b::r) p) t):PW X (.BoolOp .And (b::r) p) t:=by
 cases r with
 |nil=>exact qv h
 |cons c r=>exact sM h
def mQ (h:PT X (match r with| []=>b|_=>.BoolOp .Or (b::r) p) t):PW X (.BoolOp .Or (b::r) p) t:=by
 cases r with
 |nil=>exact vB h
 |cons c r=>exact sM h
def rB:yb X (unaryOp .USub) (λx H Q=>match x with| .int i=>Q (.int (-i)) H|_=>False):=by
 intro Y s U H x v Q I r h
 split at h
 .exact(L2.tW Y s U H _ v Q I r ⟨_,rfl,h⟩)
 .exact h.elim
def lK {CX:kb}{C f:Addr}{fd:FuncData}{ps:List Str}{sp:Sp}{dvs:List V}{ds:List Value}{E:St->XK}{pos:Pos}(M:x6 X.K C f)(F:ba X.prog X.w X.K X.mg X.base CX k f fd ps sp)(hr:aG (k+1) X.A)(hg:Gl X x)(hm:X.mg x=some (.ref C))(hb:Binds X.K fd ps ds)(hd:Vals dvs ds)(hx:Passes CX X E)
  (hdb:(x ==("__debug__":Str))=false):PE X (.Call (.Name x p) [] [] pos) (nM C sp dvs E ql):=by
 intro Y s U H Q I h;refine bn (aI I hg hm ?_ hdb);exact W.callWith_K0 I.aJ M.kp (gf (us:=[]) M F hr hb hd hx (Nat.zero_le _) I .nil h.2)
def a4.bb {f:Value->Value->Sem Value}{r:R2}(h:a4 X f r):a4 X f (λx y H R=>∃ Q,r x y H Q/\∀ z H1,Q z H1->R z H1):=λY s U H x y v u R I rx ry ⟨Q,q,i⟩=>
 ak (h Y s U H x y v u Q I rx ry q) λ_ _ ⟨v,H',J,r,z⟩=>⟨v,H',J,r,i _ _ z⟩
section
open PyProof.Rows
def la {tg:Expr}{U:L2.St}{H1:Hp}{v:Value}{xs:List V}(I1:Inv X Y U H1 s1)(r:RelV (.ref a) v)(hq:ax X.K H1 a xs)(q:R (vZ X.K a) H1):
  wpAny (model X.prog X.w) X.A (pyIter v) (xM X Y U tg R) X.xe s1:=by
 cases r;obtain⟨its,rv,p,hz⟩:=I1.list hq;refine wpAny_pyIter_list p.isList ?_;refine⟨s1.heap.objs.size,[s1.heap.objs.size],_,_,H1,rfl,I1.kept (t':=s1.toks) λb o e=>re _ e,lx a _,⟨_,ss _ rfl,rfl,rfl⟩,λb hb=>?_,q⟩;have e:b=s1.heap.objs.size:=by simpa using hb
 subst e;exact I1.qQ (nl _) (I1.hok.fresh (nl _))
def ph {tg:Expr}{U:L2.St}{H1:Hp}{v:Value}{xs:List V}(I1:Inv X Y U H1 s1)(r:RelV (.ref a) v)(hq:a9 X.K H1 a xs)(q:R (vW X.K a) H1):
  wpAny (model X.prog X.w) X.A (pyIter v) (xM X Y U tg R) X.xe s1:=by
 cases r;obtain⟨its,rv,p,hz⟩:=I1.tuple hq;refine wpAny_pyIter_tuple (show s1.heap.IsTuple a its.toArray from p) ?_;refine⟨s1.heap.objs.size,[s1.heap.objs.size],_,_,H1,rfl,I1.kept (t':=s1.toks) λb o e=>re _ e,jn a _,⟨_,ss _ rfl,rfl,rfl⟩,λb hb=>?_,q⟩;have e:b=s1.heap.objs.size:=by simpa using hb
 subst e;exact I1.qQ (nl _) (I1.hok.fresh (nl _))
end
def vJ {x:V}{Q:Bool->Hp->Prop}(h:uj K x H Q):∃ k,rE K x H k/\Q k H:=by
 unfold uj at h
 split at h
 .exact⟨_,rfl,h⟩
 .exact h
abbrev ya:List Str->List V->List (V×V)
 |k::ks,x::xs=>(.str k,x)::ya ks xs
 |_,_=>[]
def mN:∀ {ks:List Str}{xs:List V},ya ks xs=(vz ks xs).map (λkv=>(kV kv.1,kv.2))
 | [],_=>rfl
 |_::_,[]=>rfl
 |k::ks,x::xs=>by
  show(V.str k,x)::ya ks xs=(kV (.inr k),x)::(vz ks xs).map _;rw[mN]
  rfl
def kr:∀ {ks:List Str}{xs:List V},(vz ks xs).length<=ks.length
 | [],_=>nl _
 |_::_,[]=>Nat.zero_le _
 |k::ks,x::xs=>Nat.succ_le_succ kr
def c8 {k:Str}{ks:List Str}(h:gN (k::ks) keys=true):∃ j p r,keys=some (.Constant (.str k) j p)::r/\gN ks r=true:=by
 unfold gN at h
 split at h
 .rename_i e;cases e
 .rename_i k' ks' x j p r e
  injection e with e1 e2
  subst e1 e2;simp only[lf,decide_eq_true_eq]at h;obtain⟨rfl,h⟩:=h;exact⟨_,_,_,rfl,h⟩
 .cases h
def fe (h:gN [] keys=true):keys=[]:=by
 cases keys with
 |nil=>rfl
 |cons a r=>cases(show false=true from h)
def iP:∀ {ks:List Str}{keys:List (Option Expr)},gN ks keys=true->keys.length=ks.length
 | [],keys,h=>by rw[fe h];rfl
 |k::ks,keys,h=>by
  obtain⟨j,p,r,rfl,h2⟩:=c8 h;rw[length_cons,length_cons,iP h2]
def iu:∀ {ks:List Str}{keys:List (Option Expr)},gN ks keys=true->keys.all (·.isSome)=true
 | [],keys,h=>by rw[fe h];rfl
 |k::ks,keys,h=>by
  obtain⟨j,p,r,rfl,h2⟩:=c8 h;rw[all_cons,iu h2]
  rfl
def mP {S:Sn}:∀ {x:cz}{e:List Expr},dJ S x e=true->e.length=x.len
 | .nil,[],_=>rfl
 | .nil,_::_,h=>by cases(show false=true from h)
 | .cons x xs,[],h=>by cases(show false=true from h)
 | .cons x xs,e::es,h=>by
  have h:(mE S x e&&notStar e&&dJ S xs es)=true:=h;simp only[lf]at h;exact congrArg Nat.succ (mP h.2)
mutual
theorem sE:∀ (x:Ex){X:Cx}{S:Sn}{E:St->XK},Gd X G S k E->∀ {e:Expr},mE S x e=true->PE X e (λU H Q=>wE G x U H Q (E U))
 | .v i,X,S,E,g,e,h=>by
  sleep 1
  simp only[lf,decide_eq_true_eq]at h;obtain⟨h1,h2⟩:=h;obtain⟨v1,v2,v3⟩:=g.xB h2;refine PE.imp (vc (i:=i) (by rw[g.N];exact h1) v1 v2 v3) λU H Q q=>?_
  conv at q=>whnf
  split at q
  .rename_i e;exact⟨_,e,q⟩
  .exact q.elim
 | .int i,X,S,E,g,e,h=>by
  sleep 2
  simp only[decide_eq_true_eq]at h;subst h;exact vE
 | .bl i,X,S,E,g,e,h=>by
  sleep 2
  simp only[decide_eq_true_eq]at h;subst h;exact w8
 | .non,X,S,E,g,e,h=>by
  sleep 2
  exact uJ
 | .str i,X,S,E,g,e,h=>by
  sleep 2
  simp only[decide_eq_true_eq]at h;subst h;exact o4
 | .gl x,X,S,E,g,e,h=>by
  sleep 1
  simp only[lf,decide_eq_true_eq]at h;obtain⟨rfl,h2⟩:=h;obtain⟨hg,hd⟩:=g.glob h2;intro Y s U H Q I q
  conv at q=>whnf
  split at q
  .rename_i v e;obtain⟨u,hm,r⟩:=g.tab.gl _ v e;exact ku hg hm r hd Y s U H Q I q
  .exact q.elim
 | .bin op a b,X,S,E,g,e,h=>by
  sleep 1
  simp only[lf,decide_eq_true_eq]at h;obtain⟨⟨rfl,ha⟩,hb⟩:=h;exact xG (g.bin op) (sE a g ha) (sE b g hb)
 | .neg a,X,S,E,g,e,h=>by
  sleep 2
  exact wx rB (sE a g h)
 | .not a,X,S,E,g,e,h=>by
  sleep 2
  refine PE.imp (uw (PE.bb (sE a g h))) λU H Q q=>⟨_,q,λx H1 z=>?_⟩
  split at z
  .exact⟨_,rfl,z⟩
  .exact z.elim
 | .and a b,X,S,E,g,e,h=>by
  sleep 3
  simp only[lf]at h;refine PE.imp (t7 (PE.bb (sE a g h.1)) (nD (sE b g h.2))) λU H Q q=>⟨_,q,λx H1 z=>?_⟩
  split at z
  .rw[bD]at z;exact⟨_,rfl,z⟩
  .exact z.elim
 | .or a b,X,S,E,g,e,h=>by
  sleep 3
  simp only[lf]at h;refine PE.imp (w9 (PE.bb (sE a g h.1)) (mw (sE b g h.2))) λU H Q q=>⟨_,q,λx H1 z=>?_⟩
  split at z
  .rw[bD]at z;exact⟨_,rfl,z⟩
  .exact z.elim
 | .cmp op a b,X,S,E,g,e,h=>by
  sleep 3
  simp only[lf,decide_eq_true_eq]at h;obtain⟨⟨⟨rfl,ha⟩,hb⟩,hn⟩:=h;exact qU (g.cmp op) (sE a g ha) (sE b g hb) (bH hn _)
 | .cmp2 o1 o2 a b c,X,S,E,g,e,h=>by
  sleep 3
  simp only[lf,decide_eq_true_eq]at h;obtain⟨⟨⟨⟨⟨rfl,rfl⟩,ha⟩,hb⟩,hc⟩,hn⟩:=h;refine PE.imp (og (a4.bb (g.cmp o1)) (g.cmp o2) (PE.bb (sE a g ha)) (PE.bb (sE b g hb)) (sE c g hc) (eE hn)) λU H Q q=>⟨_,q,λx H1 q1=>⟨_,q1,λy H2 q2=>⟨_,q2,λz H3 q3=>?_⟩⟩⟩
  split at q3
  .rw[bD]at q3;exact⟨_,rfl,q3⟩
  .exact q3.elim
 | .cmp3 o1 o2 o3 a b c d,X,S,E,g,e,h=>by cases(show false=true from h)
 | .ife c a b,X,S,E,g,e,h=>by
  sleep 1
  simp only[lf]at h;exact PE.imp (nZ (PT.bb (sT c g h.1.1)) (sE a g h.1.2) (sE b g h.2)) λU H Q q=>⟨_,q,λk H1 z=>by rwa [bD]at z⟩
 | .tup es,X,S,E,g,e,h=>by
  sleep 1
  refine PE.imp (uN (PA.bb (lX es g h))) λU H Q q=>⟨_,q,λx H1 z=>by unfold lC at z;exact⟨cY (by have:=z.1;omega),z.2⟩⟩
 | .lst es,X,S,E,g,e,h=>by
  sleep 1
  refine PE.imp (tF (PA.bb (lX es g h))) λU H Q q=>⟨_,q,λx H1 z=>by unfold pX at z;exact⟨cY (by have:=z.1;omega),z.2⟩⟩
 | .ix a i,X,S,E,g,e,h=>by
  sleep 1
  simp only[lf]at h;have hr:vX X (kD G.R.K):=g.hK▸jJ g.un;exact xR hr (sE a g h.1.1) (sE i g h.1.2) (jW h.2)
 | .sl a lo hi,X,S,E,g,e,h=>by
  sleep 3
  simp only[lf]at h;have hr:wm X (sR G.R.K):=g.hK▸vj;exact mX hr (sE a g h.1.1) (sO lo g h.1.2) (sO hi g h.2)
 | .fld a f,X,S,E,g,e,h=>by
  sleep 1
  simp only[lf,decide_eq_true_eq]at h;obtain⟨⟨ha,rfl⟩,hn⟩:=h;intro Y s U H Q I q;have q':wE G a U H (λx H1=>iH G f x H1 Q) (E U):=q;refine qW (aM hn _ _ _) (ak (sE a g ha Y s U H _ I q') λu s1 ⟨x,H1,I1,rx,qf⟩=>?_);unfold iH at qf;obtain⟨a,i,fs,v,ex,ea,hna,l,q⟩:=qf;subst ex;obtain rfl:u=Value.ref a:=rx;have n:=g.tab.na i f hna;rcases ea with⟨ho,dx,ea⟩|⟨ho,dx,fr,ea⟩
  .exact d4 I1 ea (g.tab.oc i ho).1 n l λu' s' J rv=>⟨v,H1,J,rv,q⟩
  .exact fW I1 ea (g.tab.xc i ho).1 n l λu' s' J rv=>⟨v,H1,J,rv,q⟩
 | .call f es,X,S,E,g,e,h=>by
  sleep 3
  rename_i es' pos _ xn p1 _;simp only[lf,decide_eq_true_eq]at h;obtain⟨⟨h1,h2⟩,h3⟩:=h;obtain⟨hg,hdb⟩:=g.glob h1;obtain⟨hm,hk,d,hd⟩:=g.tab.gfn _ _ (g.hT▸h2);obtain⟨fd,F,B⟩:=(g.fns f d hd).fact;obtain⟨ds,hb,hv⟩:∃ ds,Binds X.K fd d.ps ds/\Vals (dflt G f es.len) ds:=by
   unfold dflt;rw[hd];exact B _
  intro Y s U H Q I q;obtain⟨hc,q⟩:=(show G.cm=true/\wEs G es U H (λvs H1=>G.Ψ f (vs++dflt G f es.len) H1 Q (E U)) (E U) from q);have hr:aG k X.A:=(g.room hc).mono (Nat.le_succ _);cases es' with
  |nil=>
   cases es with
   |nil=>exact pz F hr hg hm hk hb hv g.pass hdb Y s U H Q I q
   |cons _ _=>cases(show false=true from h3)
  |cons e0 er=>
   have PAs:=lX es g h3;obtain⟨ns,x0,xr,rfl,h4⟩:=aC h3;exact pY F hr hg hm hk hb hv g.pass PAs hdb (aa ns) (av h4 _ _) Y s U H Q I q
 | .meth a m es,X,S,E,g,e,h=>by
  sleep 3
  rename_i es' pos _ a' m' apos _;simp only[lf,decide_eq_true_eq]at h;obtain⟨⟨⟨⟨⟨ha,rfl⟩,h3⟩,h4⟩,h5⟩,h6⟩:=h;intro Y s U H Q I q;obtain⟨hc,q⟩:=(show G.cm=true/\_ from q);refine nc (n:=es.len+1) g hc (sE a g ha) (lX es g h3) (λz U H R hr=>?_) (λe r z=>?_) (λe r z=>?_) (fN h4 (jY h3 h6 _ _) h5) Y s U H Q I q
  .subst z;cases es with
   |nil=>exact hr
   |cons _ _=>cases(show false=true from h3)
  .subst z;exact aa (aC h3).1
  .subst z;have PAs:=lX es g h3;obtain⟨ns,x0,xr,rfl,h4⟩:=aC h3;exact av h4 _ _
 | .lm m a es,X,S,E,g,e,h=>by
  sleep 3
  rename_i es' pos _ a' m' apos _;simp only[lf,decide_eq_true_eq]at h;obtain⟨⟨⟨⟨⟨ha,rfl⟩,h3⟩,h4⟩,h5⟩,h6⟩:=h;cases es' with
  |nil=>
   cases es with
   |nil=>exact PE.imp (uP PySem.F.plainAttrs_list (ki m) (sU m) (sD m) (PE.bb (sE a g ha)) (aM h4 _ _ _) h5) λU H Q q=>⟨_,q,λx H1 z=>by
     obtain⟨p,xs0,ex,hp,q⟩:=z;subst ex;obtain⟨xs,h1,h2⟩:=q;exact⟨.inl ⟨rfl,xs0,ax.of hp⟩,p,xs,rfl,h1,h2⟩⟩
   |cons _ _=>cases(show false=true from h3)
  |cons e0 er=>
   have PAs:=lX es g h3;obtain⟨ns,x0,xr,rfl,h7⟩:=aC h3;exact PE.imp (sZ PySem.F.plainAttrs_list (ki m) (sU m) (sD m) (PE.bb (sE a g ha)) (PA.bb PAs) (aM h4 _ _ _) (ng h3 h6 _ _) h5 (aa ns) (av h7 _ _)) λU H Q q=>⟨_,q,λx H1 z=>by
     obtain⟨p,xs0,ex,hp,q⟩:=z;subst ex;exact⟨.inl ⟨rfl,xs0,ax.of hp⟩,_,q,λvs H2 ⟨xs,h1,h2⟩=>⟨p,xs,rfl,h1,h2⟩⟩⟩
 | .dget a k d,X,S,E,g,e,h=>by cases(show false=true from h)
 | .rev a b,X,S,E,g,e,h=>by cases(show false=true from h)
 | .lix a b,X,S,E,g,e,h=>by cases(show false=true from h)
 | .make c es,X,S,E,g,e,h=>by
  sleep 3
  rename_i es' pos _ xn p1 _;simp only[lf,decide_eq_true_eq]at h;obtain⟨⟨h1,h2⟩,h3⟩:=h;obtain⟨hg,hdb⟩:=g.glob h1;have hm:=g.tab.gcl _ _ (g.hT▸h2);intro Y s U H Q I q
  conv at q=>whnf
  obtain⟨hc,q⟩:=q
  split at q
  .obtain⟨h0,q⟩:=q;cases es' with
   |nil=>
    cases es with
    |nil=>exact absurd q.1 (by decide)
    |cons _ _=>cases(show false=true from h3)
   |cons e0 er=>
    have PAs:=lX es g h3;obtain⟨ns,x0,xr,rfl,h4⟩:=aC h3;exact mZ (g.tab.ini0 c h0) hg hm PAs hdb (aa ns) (av h4 _ _) Y s U H Q I q
  .rename_i f hf;obtain⟨⟨d,hd⟩,hmk⟩:=g.tab.ini c f hf;obtain⟨fd,F,B⟩:=(g.fns f d hd).fact;obtain⟨ds,hb,hv⟩:∃ ds,Binds X.K fd d.ps ds/\Vals (dflt G f (es.len+1)) ds:=by
    unfold dflt;rw[hd];exact B _
   have hr:=g.room hc
   split at q
   .rename_i hx;rw[if_pos hx]at hmk;cases es' with
    |nil=>
     cases es with
     |nil=>exact lK hmk F hr hg hm hb hv g.pass hdb Y s U H Q I q
     |cons _ _=>cases(show false=true from h3)
    |cons e0 er=>
     have PAs:=lX es g h3;obtain⟨ns,x0,xr,rfl,h4⟩:=aC h3;exact oH hmk F hr hg hm hb hv g.pass PAs hdb (aa ns) (av h4 _ _) Y s U H Q I q
   .rename_i hx;rw[if_neg hx]at hmk;cases es' with
    |nil=>
     cases es with
     |nil=>exact mC hmk F hr hg hm hb hv g.pass hdb Y s U H Q I q
     |cons _ _=>cases(show false=true from h3)
    |cons e0 er=>
     have PAs:=lX es g h3;obtain⟨ns,x0,xr,rfl,h4⟩:=aC h3;exact qm hmk F hr hg hm hb hv g.pass PAs hdb (aa ns) (av h4 _ _) Y s U H Q I q
 | .bini es,X,S,E,g,e,h=>by
  sleep 4
  rename_i es' pos _ mm p2 _ xn p1 _;simp only[lf,decide_eq_true_eq]at h;obtain⟨⟨⟨⟨⟨h1,rfl⟩,h2⟩,h3⟩,h4⟩,h5⟩:=h;obtain⟨hg,hdb⟩:=g.glob h1;obtain⟨B,hm,hB⟩:=g.tab.gbi _ (g.hT▸h2);cases es' with
  |nil=>
   cases es with
   |nil=>cases h4
   |cons _ _=>cases(show false=true from h3)
  |cons e0 er=>
   have PAs:=lX es g h3;obtain⟨ns,x0,xr,rfl,h7⟩:=aC h3;refine PE.imp (vp hB hg hm (PA.bb PAs) hdb (aa ns) (av h7 _ _) (fN (o:=.Name _ _) rfl (jY h3 (by rw[h4];decide) _ _) h5)) λU H Q q=>⟨_,q,λvs H1 z=>?_⟩
   obtain⟨a,i,dx,fs,fr,v,ev,ea,hi,q⟩:=z;exact⟨a,_,dx,fs,fr,v,ev,ea,(g.tab.xc i hi).1,q⟩
 | .cini c es,X,S,E,g,e,h=>by cases(show false=true from h)
 | .bf b es,X,S,E,g,e,h=>by
  sleep 3
  rename_i es' pos _ xn p1 _;simp only[lf,decide_eq_true_eq]at h;obtain⟨⟨⟨⟨h1,rfl⟩,h2⟩,h3⟩,h4⟩:=h;obtain⟨hg,hdb⟩:=g.glob h1;obtain⟨hm,hn⟩:=g.tab.gbl _ (g.hT▸h2);cases es' with
  |nil=>
   cases es with
   |nil=>exact absurd h4 (by decide)
   |cons _ _=>cases(show false=true from h3)
  |cons e0 er=>
   have PAs:=lX es g h3;obtain⟨ns,x0,xr,rfl,h7⟩:=aC h3;have hb:=rL b;have hk:=xE g b;have key:∀ {v:Value},mU b=v->(∃ i,v=.builtin i)\/(∃ i,v=.type i):=by
    intro v hv;subst hv;cases b<;>first|exact .inl ⟨_,rfl⟩|exact .inr ⟨_,rfl⟩
   rcases key rfl with⟨i,hi⟩|⟨i,hi⟩
   .rw[hi]at hb hk;exact il hk hg hm hb PAs hn hdb (aa ns) (av h7 _ _)
   .rw[hi]at hb hk;exact kW hk hg hm hb PAs hn hdb (aa ns) (av h7 _ _)
 | .isi a c,X,S,E,g,e,h=>by
  sleep 4
  rename_i pos _ xn p1 _ _ a' c';simp only[lf,decide_eq_true_eq]at h;obtain⟨⟨⟨⟨h1,rfl⟩,h2⟩,h3⟩,h4⟩:=h;obtain⟨hg,hdb⟩:=g.glob h1;obtain⟨hm,hn⟩:=g.tab.gbl _ (g.hT▸h2);have n1:notStar a'=true:=by
   cases a'<;>first|rfl|(cases a<;>cases(show false=true from h3))
  have n2:notStar c'=true:=by
   cases c'<;>first|rfl|(cases c<;>simp[rg]at h4)
  refine PE.imp (il (uh g c) hg hm tX (jT (PE.bb (sE a g h3)) (jT (xy g h4) eZ n2) n1) hn hdb (aa n1) ?_) λU H Q q=>⟨_,q,λx H1 z=>⟨x,rfl,z⟩⟩
  rw[aa n2]
  rfl
 | .lc elt sel it,X,S,E,g,e,h=>by
  sleep 2
  split at h
  iterate 3 (split at h;rotate_left;cases h)
  simp only[lf]at h;obtain⟨⟨⟨h1,h2⟩,h3⟩,h4⟩:=h;intro Y s U H Q I q;obtain⟨hc,q⟩:=(show G.cm=true/\wI G it U H (λJ H1=>lA (λσ' H' Q'=>wE G elt σ' H' Q' (λ_ _=>False)) J (none::dI U sel) H1 Q) (E U) from q);rw[pd]at q;obtain⟨cl,C⟩:=bh g I.ok h1;exact nh (g.cm hc) C (sI it g h2) (λs H fp=>sE elt (g.comp C s H fp) h3) (aS h4 _) Y s U H Q I q
 | .lci elt c sel it,X,S,E,g,e,h=>by cases(show false=true from h)
 | .lct elt n sel it,X,S,E,g,e,h=>by cases(show false=true from h)
 | .lcu elt c n sel it,X,S,E,g,e,h=>by cases(show false=true from h)
 | .dnew,X,S,E,g,e,h=>by cases(show false=true from h)
 | .sm m a b,X,S,E,g,e,h=>by
  sleep 4
  simp only[lf,decide_eq_true_eq]at h;obtain⟨⟨⟨⟨⟨ha,rfl⟩,hb⟩,hn⟩,h4⟩,h5⟩:=h;exact PE.imp (sZ PySem.F.plainAttrs_str (qF m) (xw m) (xk m) (PE.bb (sE a g ha)) (jT (PE.bb (sE b g hb)) eZ hn) (aM h4 _ _ _) (rX hb hn _ _) h5 (aa hn) rfl) λU H Q q=>⟨_,q,λx H1 z=>by
   obtain⟨z,rfl,q⟩:=z;exact⟨rfl,_,q,λy H2 q=>⟨z,y,rfl,rfl,g.hK▸q⟩⟩⟩
 | .up a,X,S,E,g,e,h=>by cases(show false=true from h)
 | .isiT a cs,X,S,E,g,e,h=>by cases(show false=true from h)
 | .mk0 c,X,S,E,g,e,h=>by cases(show false=true from h)
 | .vals tp a,X,S,E,g,e,h=>by cases(show false=true from h)
 | .disp ks es,X,S,E,g,e,h=>by
  sleep 1
  simp only[lf,decide_eq_true_eq]at h;obtain⟨⟨⟨⟨h1,h2⟩,h3⟩,h4⟩,h5⟩:=h;intro Y s U H Q I q;have hk:=iP h1;have hv:=mP h2;refine pO (zq es g h1 h2 h3) (iu h1) nofun (λz=>by rw[z]at hk;simp at hk;omega) nofun Y s U H Q I λp hp=>?_
  refine⟨_,q p hp,λxs H2 hl z=>?_⟩;unfold j8 at z;exact⟨z.1,vz ks xs,mN,by have:=kr (ks:=ks) (xs:=xs);omega,z.2⟩
 | .dzip a b,X,S,E,g,e,h=>by cases(show false=true from h)
termination_by structural x=>x
theorem sI:∀ (x:sV){X:Cx}{S:Sn}{E:St->XK},Gd X G S k E->∀ {t e:Expr},mI S x t e=true->PI X t e (λU H R=>wI G x U H R (E U))
 | .rng1 a,X,S,E,g,t,e,h=>by
  sleep 4
  simp only[lf,decide_eq_true_eq]at h;obtain⟨⟨⟨⟨h1,rfl⟩,h2⟩,h3⟩,n1⟩:=h;obtain⟨hg,hdb⟩:=g.glob h1;obtain⟨hm,hn⟩:=g.tab.gbl _ (g.hT▸h2);intro Y s U H R I q;refine lL hg hm (jT (PE.bb (sE a g h3)) eZ n1) (aa n1) Y s U H R I ⟨_,q,λx H1 z=>?_⟩
  split at z
  .exact⟨_,rfl,z.1,z.2.1,z.2.2⟩
  .exact z.elim
 | .rng2 a b,X,S,E,g,t,e,h=>by
  sleep 4
  simp only[lf,decide_eq_true_eq]at h;obtain⟨⟨⟨⟨⟨⟨h1,rfl⟩,h2⟩,h3⟩,h4⟩,n1⟩,n2⟩:=h;obtain⟨hg,hdb⟩:=g.glob h1;obtain⟨hm,hn⟩:=g.tab.gbl _ (g.hT▸h2);intro Y s U H R I q;refine lF hg hm (jT (PE.bb (sE a g h3)) (jT (PE.bb (sE b g h4)) eZ n2) n1) (by rw[aa n1,aa n2];rfl) (by rw[aa n2];rfl) Y s U H R I ⟨_,q,λx H1 z=>⟨_,z,λy H2 z=>?_⟩⟩
  split at z
  .exact⟨_,_,rfl,z.1,z.2⟩
  .exact z.elim
 | .rng3 a b c,X,S,E,g,t,e,h=>by cases(show false=true from h)
 | .enm a,X,S,E,g,t,e,h=>by cases(show false=true from h)
 | .enf a,X,S,E,g,t,e,h=>by cases(show false=true from h)
 | .seq a,X,S,E,g,t,e,h=>by
  conv at h=>lhs;whnf
  intro Y s U H R I q;have q':wE G a U H (λx H1=>match x with| .ref p=>gU G.R.K p H1 R| .str z=>R (vI z) H1|_=>False) (E U):=q;rw[g.hK]at q';refine ak (sE a g h Y s U H _ I q') λv s1 ⟨x,H1,I1,r1,z⟩=>?_
  dsimp only at z
  split at z
  .unfold gU at z;rcases z with⟨⟨xs,hx⟩,z⟩|⟨⟨xs,hx⟩,z⟩|z
   .exact la I1 r1 hx z
   .exact ph I1 r1 hx z
   .exact z.elim
  .exact o9 I1 r1 z
  .exact z.elim
 | .zip a b,X,S,E,g,t,e,h=>by cases(show false=true from h)
 | .zip3 a b c,X,S,E,g,t,e,h=>by cases(show false=true from h)
termination_by structural x=>x
theorem sO:∀ (x:xY){X:Cx}{S:Sn}{E:St->XK},Gd X G S k E->∀ {e:Option Expr},mO S x e=true->PO X e (λU H Q=>wO G x U H Q (E U))
 | .no,X,S,E,g,none,h=>p6
 | .no,X,S,E,g,some _,h=>by cases(show false=true from h)
 | .yes x,X,S,E,g,none,h=>by cases(show false=true from h)
 | .yes x,X,S,E,g,some e,h=>by
  conv at h=>lhs;whnf
  intro Y s U H Q I q;refine pI (PE.bb (sE x g h)) Y s U H Q I ⟨_,q,λy H1 z=>?_⟩
  split at z
  .exact⟨_,rfl,z⟩
  .exact z.elim
termination_by structural x=>x
theorem sT:∀ (x:Tx){X:Cx}{S:Sn}{E:St->XK},Gd X G S k E->∀ {e:Expr},mT S x e=true->PT X e (λU H Q=>wT G x U H Q (E U))
 | .not a,X,S,E,g,e,h=>by
  sleep 2
  exact vH (sT a g h)
 | .and a b,X,S,E,g,e,h=>by
  sleep 3
  simp only[lf]at h;exact PT.imp (tH (PT.bb (sT a g h.1)) (oh (sT b g h.2))).pt λU H Q q=>⟨_,q,λk H1 z=>by rwa [bD]at z⟩
 | .or a b,X,S,E,g,e,h=>by
  sleep 3
  simp only[lf]at h;exact PT.imp (wU (PT.bb (sT a g h.1)) (mQ (sT b g h.2))).pt λU H Q q=>⟨_,q,λk H1 z=>by rwa [bD]at z⟩
 | .cmp op a b,X,S,E,g,e,h=>by
  sleep 3
  simp only[lf,decide_eq_true_eq]at h;obtain⟨⟨⟨rfl,ha⟩,hb⟩,hn⟩:=h;refine PT.imp (rC (a4.bb (g.cmp op)) (PE.bb (sE a g ha)) (PE.bb (sE b g hb)) (bH hn _)) λU H Q q=>⟨_,q,λx H1 q1=>⟨_,q1,λy H2 q2=>⟨_,q2,λz H3 q3=>?_⟩⟩⟩
  split at q3
  .exact⟨_,rfl,q3⟩
  .exact q3.elim
 | .cmp2 o1 o2 a b c,X,S,E,g,e,h=>by
  sleep 3
  simp only[lf,decide_eq_true_eq]at h;obtain⟨⟨⟨⟨⟨rfl,rfl⟩,ha⟩,hb⟩,hc⟩,hn⟩:=h;refine PT.imp (nH (a4.bb (g.cmp o1)) (a4.bb (g.cmp o2)) (PE.bb (sE a g ha)) (PE.bb (sE b g hb)) (PE.bb (sE c g hc)) (eE hn)) λU H Q q=>⟨_,q,λx H1 q1=>⟨_,q1,λy H2 q2=>⟨_,q2,λz H3 q3=>?_⟩⟩⟩
  split at q3
  .refine⟨_,rfl,?_⟩;rw[bD]at q3
   split at q3
   .rename_i hk;rw[if_pos hk];refine⟨_,q3,λw H4 q4=>⟨_,q4,λz H5 q5=>?_⟩⟩
    split at q5
    .exact⟨_,rfl,q5⟩
    .exact q5.elim
   .rename_i hk;rw[if_neg hk];exact⟨_,rfl,q3⟩
  .exact q3.elim
 | .val x,X,S,E,g,e,h=>by
  have h:(mE S x e&&plainT e)=true:=h;simp only[lf]at h;refine PT.imp (pD (PE.bb (sE x g h.1)) (plainT_ok h.2 _)) λU H Q q=>⟨_,q,λy H1 z=>?_⟩
  exact g.hK▸vJ z
termination_by structural x=>x
theorem zq:∀ (x:cz){X:Cx}{S:Sn}{E:St->XK},Gd X G S k E->∀ {ks:List Str}{keys:List (Option Expr)}{e:List Expr}{pos:Pos},gN ks keys=true->dJ S x e=true->x.len=ks.length->PQ X pos keys e (λU H R=>∃ Q,wEs G x U H Q (E U)/\∀ xs H1,xs.length=x.len->Q xs H1->R (ya ks xs) H1)
 | .nil,X,S,E,g,ks,keys,[],pos,h1,h,hl=>by
  obtain rfl:ks=[]:=List.eq_nil_of_length_eq_zero hl.symm;rw[fe h1];exact λY s U H R I ⟨Q,q,i⟩=>tR Y s U H R I (i [] H rfl q)
 | .nil,X,S,E,g,_,_,_::_,pos,h1,h,hl=>by cases(show false=true from h)
 | .cons x xs,X,S,E,g,_,_,[],pos,h1,h,hl=>by cases(show false=true from h)
 | .cons x xs,X,S,E,g,[],keys,e::es,pos,h1,h,hl=>by cases hl
 | .cons x xs,X,S,E,g,c::ks,keys,e::es,pos,h1,h,hl=>by
  have h:(mE S x e&&notStar e&&dJ S xs es)=true:=h;simp only[lf]at h;obtain⟨j,p,r,rfl,h2⟩:=c8 h1;intro Y s U H R I ⟨Q,q,i⟩;refine qy o4 (PE.bb (sE x g h.1.1)) (zq xs g h2 h.2 (Nat.succ.inj hl)) Y s U H R I ?_;exact⟨_,q,λy H2 z=>⟨_,z,λys H3 hy w=>i (y::ys) H3 (congrArg Nat.succ hy) w⟩⟩
termination_by structural x=>x
theorem lX:∀ (x:cz){X:Cx}{S:Sn}{E:St->XK},Gd X G S k E->∀ {e:List Expr},dJ S x e=true->PA X e (λU H Q=>wEs G x U H Q (E U))
 | .nil,X,S,E,g,[],h=>eZ
 | .nil,X,S,E,g,_::_,h=>by cases(show false=true from h)
 | .cons x xs,X,S,E,g,[],h=>by cases(show false=true from h)
 | .cons x xs,X,S,E,g,e::es,h=>by
  have h:(mE S x e&&notStar e&&dJ S xs es)=true:=h;simp only[lf]at h;exact jT (sE x g h.1.1) (lX xs g h.2) h.1.2
termination_by structural x=>x
end
end
end L3
namespace L2
open PySem PySem.Spec PyProof.Rows
variable {scope:Scope}{cl:List (Str×Addr)}{fr:List Str}{sel:List Nat}{s:Shared}
section
variable {X:Cx}
def cw {elt iter tgt:Expr}{ifs:List Expr}{xs:List Str}{y:Str}{py pos spos:Pos}{wi:TI}{tg:TG}{tc:TT}{te:TE}{ni:Nat}(hc:X.calm=true)(S:az X scope cl xs fr sel)(hi:PI X tgt iter wi)
  (hg:∀ (s:Shared) (H:Hp) (fp:List Addr),PG (b6 X scope cl (xs++fr) s H fp) tgt tg) (ht:∀ (s:Shared) (H:Hp) (fp:List Addr),xW (b6 X scope cl (xs++fr) s H fp) ifs tc)
  (he:∀ (s:Shared) (H:Hp) (fp:List Addr),PE (b6 X scope cl (xs++fr) s H fp) elt te) (hs:∀ x,foldedSetIterable iter X.env x=pure x) (hN:X.N.Nodup) (hni:X.N[ni]? =some y) (hy:X.env.scope.names.lookup y=some .local)
  (hsw:swapsWith (.ListComp elt [⟨tgt,iter,ifs,0⟩] scope pos) (some (.Name y py)) spos.line X.env=pure true):PS X (.Assign [.Name y py] (.ListComp elt [⟨tgt,iter,ifs,0⟩] scope pos) spos) (λD U H=>wb wi tg tc te xs sel U H λv H1=>D.nx (U.set ni (some v)) H1):=by
 intro Y s U H DD I h;rw[exec_Assign_Name_used _ _ _ _ hsw];refine ad (wpAny_standAt (ad ?_));show wpAny _ _ (do let _ <-comprehension (.ListComp elt [⟨tgt,iter,ifs,0⟩] scope pos) scope X.env _ (newList []) false (eval iter X.env) (some (assign (.Name y py) X.env))) _ _ s;refine ad (wpAny_mono (wpAny_comprehension_free (use:=some (assign (.Name y py) X.env)) (Q:=λ_ s'=>SP X Y DD .next s') rfl hs S.clos S.kind S.names ?_) (λ_ s' hq=>am (am hq)) λ_ _ e=>e);refine ak (hi Y s U H _ I h) λv s1 h1=>ak h1 λitv s2 h2=>?_
 obtain⟨it,fp,tn,J,H2,e,I2,T,kg,f2,h2⟩:=h2;subst e;refine wpAny_newObj_type ?_;have hD:H2 s2.heap.objs.size=none:=I2.hok.fresh (nl _);have I3:Inv X Y U (upd H2 s2.heap.objs.size (.lst [])) { s2 with heap:=s2.heap.push { cls:=.type "list",dict:=none,data:=.seq ([]:List Value).toArray } }:=
  I2.laid (t':=s2.toks) (λb u e=>re _ e) (nl _) ⟨Nat.zero_le _,[],0,.nil,ss _ rfl⟩
 have fo2:∀ b ∈ fp,b<s2.heap.objs.size:=λb hb=>by
  obtain⟨o,ho,_⟩:=T.obj _ _ kg b hb;exact sn ho
 have f3:∀ b ∈ fp,ei X Y (upd H2 s2.heap.objs.size (.lst [])) b:=λb hb=>⟨by rw[ab (nb (fo2 b hb))];exact(f2 b hb).1,(f2 b hb).2⟩
 have st3:tn 0 (s2.heap.push { cls:=.type "list",dict:=none,data:=.seq ([]:List Value).toArray }):=T.keep _ _ _ kg λb hb o e=>re _ e
 have fo3:∀ b ∈ fp,b<(s2.heap.push { cls:=.type "list",dict:=none,data:=.seq ([]:List Value).toArray }).objs.size:=λb hb=>by
  rw[Heap.size_push];exact Nat.lt_succ_of_lt (fo2 b hb)
 obtain⟨W,⟨m0,w0⟩,turn⟩:=h2 _ hD;generalize s2.heap.objs.size=D at*;generalize hs3:({ s2 with heap:=s2.heap.push { cls:=.type "list",dict:=none,data:=.seq ([]:List Value).toArray } }:Shared)=s3 at*;have st3':tn 0 s3.heap:=by rw[<-hs3];exact st3
 have fo3':∀ b ∈ fp,b<s3.heap.objs.size:=by rw[<-hs3];exact fo3
 refine wpAny_newFunctionEnv S.nocell (by intro y hy;simp at hy) (λh' hns hsb=>?_) S.kind;have keep:∀ b o,s3.heap.get? b=some o->h'.get? b=some o:=λb o e=>(hsb.2 b (nb (sn e))).trans (re _ e)
 have I4:=ik (tk:=s3.toks+([]:List (Str×Value)).length) S I3 f3 fo3' hns keep;have st4:tn 0 h':=T.keep _ _ _ st3' λb hb o e=>keep b o e
 have stat:∀ {H':Hp},(∀ b ∈ fp,H' b=none)->∀ b ∈ fp,ei (b6 X scope cl (xs++fr) s3 (upd H2 D (.lst [])) fp) (X.pn++Y) H' b:=λ{H'} hn b hb=>
  ⟨hn b hb,nb (fo3' b hb),λz=>(le.mp (I3.c4 b z)).elim (f3 b hb).2.1 (f3 b hb).2.2.1,.inl hb,λy c hy=>(f3 b hb).2.2.2.2.1 y c (S.sub y c hy),λp hp=>(f3 b hb).2.2.2.2.2 p (by simpa[b6] using hp)⟩
 have loop:codeAny (model X.prog X.w) X.A (.compLoop (.ListComp elt [⟨tgt,iter,ifs,0⟩] scope pos) 0 (.ref it) (.ref D) (compEnvC scope cl s3.heap.objs.size X.env))
   (compPost (model X.prog X.w) X.A X.xe (some (assign (.Name y py) X.env)) (λ_ s'=>SP X Y DD .next s') (.ref D) s3.heap.objs.size) { s3 with heap:=h',toks:=s3.toks+([]:List (Str×Value)).length }:=by
  refine codeAny_loop rfl (λn s'=>∃ i σ' H',Inv (b6 X scope cl (xs++fr) s3 (upd H2 D (.lst [])) fp) (X.pn++Y) σ' H' s'/\tn i s'.heap/\(∀ b ∈ fp,H' b=none)/\W i n σ' H') (λn s5 hI=>?_) m0 ⟨0,_,_,I4,st4,λb hb=>(f3 b hb).1,w0⟩;show wpAny _ _ ((compTurn (.ListComp elt [⟨tgt,iter,ifs,0⟩] scope pos) 0 (.ref it) (.ref D) (compEnvC scope cl s3.heap.objs.size X.env)).onRaise (λx=>do noteFrame x (compEnvC scope cl s3.heap.objs.size X.env);theTreesLotGoes x)) _ _ s5;refine wpAny_noted ?_;refine j6 (ht s3 (upd H2 D (.lst [])) fp).1 ?_;obtain⟨i,σ5,H5,I5,st5,fr5,w5⟩:=hI;rcases turn i n σ5 H5 w5 with⟨stop,q⟩|⟨go,Nn,hNn,step⟩
  .refine ak (T.done (b6 X scope cl (xs++fr) s3 (upd H2 D (.lst [])) fp) rfl rfl rfl hc i _ s5 σ5 H5 _ I5 (stat fr5) st5 stop) λr s6 ⟨hr,I6⟩=>?_
   subst hr;obtain⟨m,hn,_⟩:=I6.loc;have J:Inv X Y U H5 s6:=I3.pq (ch:=fp) I6.os I6.base I6.hok I6.bare λb hb=>⟨(f3 b hb).2.2.2.1,(f3 b hb).2.1,(f3 b hb).2.2.2.2.1,(f3 b hb).2.2.2.2.2⟩
   have fC:H5 s3.heap.objs.size=none:=I6.free;have nL:s3.heap.objs.size≠X.env.locals:=Ne.symm (nb I3.lt);have nC:∀ z c,X.env.cells.lookup z=some c->c≠s3.heap.objs.size:=λz c e=>by
    obtain⟨v,o,ho,_⟩:=I3.cell z c e;exact nb (sn ho)
   show wpAny _ _ (assign (.Name y py) X.env (.ref D)) _ _ s6;refine wpAny_assign_Name (gd J hN hni (.inl hy) (v:=.ref D) rfl (λs7 J7 hsb=>?_) (.inr hy));obtain⟨a,sb,ha⟩:=hsb;have hne:s3.heap.objs.size≠a:=by
    rcases ha with ha|ha
    .rw[ha];exact nL
    .exact Ne.symm (nC _ _ ha)
   refine⟨m,hn.sameBut sb hne,λh'' hs''=>⟨_,H5,?_,q⟩⟩;exact J7.turned (h':=h'') (t':=s7.toks) (it:=s3.heap.objs.size) (λb o hb e=>(hs''.2 b hb).trans e) fC nL (.inr I3.sz) nC λp hp=>nb (sn (I3.pin p hp).1)
  .have fin:∀ {σ8:St}{H10:Hp}{s10:Shared},Inv (b6 X scope cl (xs++fr) s3 (upd H2 D (.lst [])) fp) (X.pn++Y) σ8 H10 s10/\tn (i+1) s10.heap/\(∀ b ∈ fp,H10 b=none)->Nn σ8 H10->∃ m',m'<n/\∃ i σ' H',Inv (b6 X scope cl (xs++fr) s3 (upd H2 D (.lst [])) fp) (X.pn++Y) σ' H' s10/\tn i s10.heap/\(∀ b ∈ fp,H' b=none)/\W i m' σ' H':=λ⟨I,t,f⟩ nn=>by
    obtain⟨m',hm,w10⟩:=hNn _ _ nn;exact⟨m',hm,i+1,_,_,I,t,f,w10⟩
   refine ak (T.item (b6 X scope cl (xs++fr) s3 (upd H2 D (.lst [])) fp) rfl rfl rfl hc i _ s5 σ5 H5 _ I5 (stat fr5) st5 go) λr s6 ⟨u,hr,h6⟩=>?_
   subst hr;refine ak h6 λ_ s7 ⟨xv,H7,I7,r7,y7,st7,fr7⟩=>?_
   have I7':=I7.pinned (stat fr7) (T.obj _ _ st7);refine r6 (hg s3 _ fp _ s7 σ5 H7 xv u _ I7' r7 (step xv _ y7)) λ_ s8 ⟨σ8,H8,I8,q8⟩=>?_
   refine r6 ((ht s3 _ fp).2 _ s8 σ8 H8 _ I8 q8) λok s9 ⟨H9,I9,q9⟩=>?_
   have back:∀ {H10:Hp}{s10:Shared},Inv (b6 X scope cl (xs++fr) s3 (upd H2 D (.lst [])) fp) _ σ8 H10 s10->Inv (b6 X scope cl (xs++fr) s3 (upd H2 D (.lst [])) fp) (X.pn++Y) σ8 H10 s10/\tn (i+1) s10.heap/\(∀ b ∈ fp,H10 b=none):=λ{H10 s10} I10=>⟨I10.bK,T.keep _ _ _ st7 λb hb o e=>(I10.pin (b,o) (ge _ (ge _ (aF hb e)))).1,λb hb=>by
    obtain⟨o,e,d⟩:=T.obj _ _ st7 b hb;exact(I10.pin (b,o) (ge _ (ge _ (aF hb e)))).2.1⟩
   refine⟨λek=>?_,λek=>am ⟨rfl,fin (back I9) (q9.2 ek)⟩⟩;refine r6 (he s3 _ fp _ s9 _ _ _ I9 (q9.1 ek)) λuv s10 ⟨vv,H10,I10,r10,zs,hz,hzl,n10⟩=>?_
   refine r6 (dr (X:=b6 X scope cl (xs++fr) s3 (upd H2 D (.lst [])) fp) _ s10 _ H10 (.ref D) [vv] (.ref D) [uv] (λ_ H'=>H'=upd H10 D (.lst (zs++[vv]))) I10 rfl (.cons r10 .nil) ⟨D,zs,vv,rfl,rfl,hz,hzl,rfl⟩) λ_ s11 ⟨_,H11,I11,_,e11⟩=>?_
   subst e11;exact am ⟨rfl,fin (back I11) n10⟩
 exact codeAny_compStart_list loop (T.self _ 0 _ _ _ st4 loop)
def lB {elt iter:Expr}{x y:Str}{px py pos spos:Pos}{wi:TI}{te:TE}{ni:Nat}(hc:X.calm=true)(S:az X scope cl [x] fr sel)(hi:PI X (.Name x px) iter wi)
  (he:∀ (s:Shared) (H:Hp) (fp:List Addr),PE (b6 X scope cl (x::fr) s H fp) elt te) (hs:∀ x,foldedSetIterable iter X.env x=pure x) (hN:X.N.Nodup) (hni:X.N[ni]? =some y) (hy:X.env.scope.names.lookup y=some .local)
  (hsw:swapsWith (.ListComp elt [⟨.Name x px,iter,[],0⟩] scope pos) (some (.Name y py)) spos.line X.env=pure true):PS X (.Assign [.Name y py] (.ListComp elt [⟨.Name x px,iter,[],0⟩] scope pos) spos) (λD U H=>zx wi te sel U H λv H1=>D.nx (U.set ni (some v)) H1):=λY s U H D I h=>
 cw hc S hi.up (λs H fp=>jh S) (λ_ _ _=>gJ) he hs hN hni hy hsw Y s U H D I ⟨_,h,λ_ _ q=>q.g⟩
section
variable {prog:Program}{w:World}{A:Around}{E:AD}
def gk {it t:Addr}{items:Array Value}(hne:t≠it):∀ (n i:Nat) (s:Shared) (Q:List Value->Shared->Prop),s.heap.IsListIter it t i->s.heap.IsList t items->i+n<=items.size->
  (∀ h',h'.IsListIter it t (i+n)->Heap.SameBut it s.heap h'->Q ((items.toList.drop i).take n) { s with heap:=h' })->wpAny (model prog w) A (draw (.ref it) n) Q E s
 |0,i,s,Q,hit,_,_,hQ=>by
  show wpAny _ _ (pure []) Q E s;exact am (by simpa using hQ s.heap hit (Heap.SameBut.refl ..))
 |n+1,i,s,Q,hit,ht,hle,hQ=>by
  have hlt:i<items.size:=by omega
  show wpAny _ _ (pyNext (.ref it) >>= _) Q E s;refine ad (wpAny_pyNext_list_item hit ht (x:=items[i]) (by simp[hlt]) λh₁ hit₁ hs₁=>?_);refine ad (bd (gk hne n (i+1) _ _ hit₁ (ht.extBut hs₁.extBut hne) nofun λh₂ hit₂ hs₂=>am ?_));have hd:items.toList.drop i=items[i]::items.toList.drop (i+1):=by simp[List.drop_eq_getElem_cons,hlt]
  have:=hQ h₂ (by rw[show i+(n+1)=i+1+n by omega];exact hit₂) (hs₁.trans hs₂);rw[hd,List.take_succ_cons]at this;exact this
def dm {t:Addr}{items:Array Value}{Q:List Value->Shared->Prop}(hh:A.handled=none)(ht:s.heap.IsList t items)(hty:s.TypeIs (.ref t) "list")
  (hQ:∀ h',Heap.ExtBut s.heap.objs.size s.heap h'->Q items.toList { s with heap:=h' }):wpAny (model prog w) A (unpackItems (.ref t) items.size none) Q E s:=by
 have hlt:t≠s.heap.objs.size:=by obtain⟨o,ho,_⟩:=id ht;exact nb (sn ho)
 unfold unpackItems;refine ad ?_
 .unfold notIterableAtAll;refine ad (wpAny_specialOf hty PySem.F.slot_list_iter.lookup ?_);refine am ?_;simp only[Bool.false_eq_true,if_false];refine ad (bd (wpAny_pyIter_list ht ?_));refine ad (bd (gk hlt items.size 0 _ _ ⟨_,ss _ rfl,rfl,rfl⟩ (ht.push _) nofun λh₁ hit₁ hs₁=>?_));have hall:List.take items.size (List.drop 0 items.toList)=items.toList:=by
   rw[drop_zero];exact take_of_length_le (by simp)
  rw[hall];rw[if_neg (by simp)];have ht₁:h₁.IsList t items:=(ht.push _).extBut hs₁.extBut hlt;refine ad (bd (wpAny_pyNext_list_end hh hit₁ ht₁ (by simp) λh₂ he₂=>?_));simp only[Option.isSome_none,Bool.false_eq_true,if_false];refine am (hQ h₂ λb o hb e=>he₂ b o hb (hs₁.extBut b o hb (re _ e)))
end
def uV {es:List Expr}{k:Nat}{pos:Pos}{t:qZ}{n:Nat}(hc:X.calm=true)(h:t6 X es t)
  (hn:(assignEach es X.env).length=n) (hst:(assignEach es X.env).findIdx? (·.1)=none){Y:AE}{U:St}{H:Hp}{a:Addr}{u:Value}{xs:List V}{Q:St->Hp->Prop}(I:Inv X Y U H s) (r:RelV (.ref a) u)
  (hq:ax X.K H a xs) (hl:xs.length=n) (hw:t xs U H Q):wpAny (model X.prog X.w) X.A (assign (.Tuple es k pos) X.env u) (λ_ s'=>∃ σ' H',Inv X Y σ' H' s'/\Q σ' H') X.xe s:=by
 cases r;obtain⟨its,rv,p,hz⟩:=I.list hq;rw[assign_Tuple];refine ad (wpAny_standAt ?_);unfold unpack;have e1:(assignEach es X.env).length=its.toArray.size:=by
  rw[hn,<-hl];simp[rv.length]
 rw[e1,hst];refine ad (bd (dm (I.ok.hd hc) p.isList p.isList.typeIs λh' hx=>?_));have I1:Inv X Y U H { s with heap:=h' }:=I.kept (t':=s.toks) λb o e=>hx b o (nb (sn e)) e
 exact h Y _ U H xs _ Q I1 (by simpa using rv) hw
end
end L2
namespace L3
open PySem PySem.Spec L2
set_option maxHeartbeats 2000000
abbrev lZ (S:Sn):List Nat->List Expr->Bool
 | [],[]=>true
 |i::is,.Name x _::r=>S.loc i x&&lZ S is r
 |_,_=>false
abbrev zk (S:Sn):yi->Expr->Bool
 | .nm i,e=>match e with| .Name x _=>S.loc i x|_=>false
 | .tp is,e=>match e with| .Tuple ts _ _=>lZ S is ts|_=>false
 | .nt i is,e=>match e with| .Tuple y1 _ _=>(match y1 with| [y2,y3]=>(match y2 with| .Name x _=>(match y3 with| .Tuple ts _ _=>S.loc i x&&lZ S is ts|_=>false)|_=>false)|_=>false)|_=>false
mutual
noncomputable def mS (S:Sn):Sx->Stmt->Bool
 | .asg i e,s=>match s with| .Assign y1 e' _=>(match y1 with| [y2]=>(match y2 with| .Name x _=>S.loc i x&&mE S e e'|_=>false)|_=>false)|_=>false
 | .asgT is e,_=>false
 | .par is es,_=>false
 | .sub o i v,s=>match s with| .Assign y1 v' _=>(match y1 with| [y2]=>(match y2 with| .Subscript o' i' _=>mE S o o'&&mE S i i'&&mE S v v'&&bV i'|_=>false)|_=>false)|_=>false
 | .fld o f v,s=>match s with| .Assign y1 v' _=>(match y1 with| [y2]=>(match y2 with| .Attribute o' f' _=>mE S o o'&&decide (f=f')&&mE S v v'|_=>false)|_=>false)|_=>false
 | .aug i op e,_=>false
 | .augS o i op e,s=>match s with| .AugAssign y1 op' e' _=>(match y1 with| .Subscript o' i' _=>mE S o o'&&mE S i i'&&decide (op=op')&&mE S e e'&&bV i'|_=>false)|_=>false
 | .augF o f op e,s=>match s with| .AugAssign y1 op' e' _=>(match y1 with| .Attribute o' f' _=>mE S o o'&&decide (f=f')&&decide (op=op')&&mE S e e'|_=>false)|_=>false
 | .ret e,s=>match s with| .Return y1 _=>(match y1 with|some e'=>mE S e e'|_=>false)|_=>false
 | .retN,_=>false
 | .pass,_=>false
 | .brk,_=>false
 | .cont,_=>false
 | .expr e,s=>match s with| .Expr e' _=>mE S e e'&&jP e'|_=>false
 | .ife c a b,s=>match s with| .If c' a' b' _=>mT S c c'&&mB S a a'&&mB S b b'|_=>false
 | .whl c b,_=>false
 | .for t it b,s=>match s with| .For t' it' b' y1 _=>(match y1 with| []=>zk S t t'&&mI S it t' it'&&mB S b b'&&bx it'|_=>false)|_=>false
 | .rais e,s=>match s with| .Raise y1 y2 _=>(match y1 with|some e'=>(match y2 with|none=>mE S e e'|_=>false)|_=>false)|_=>false
 | .tryx b hs,_=>false
noncomputable def mB (S:Sn):fv->List Stmt->Bool
 | .nil,l=>l.isEmpty
 | .cons s r,l=>match l with|s'::r'=>mS S s s'&&mB S r r'| []=>false
noncomputable def mH (S:Sn):pG->List ExceptHandler->Bool
 | .nil,l=>l.isEmpty
 | .cons c i b hs,l=>match l with| .ExceptHandler (some (.Name x _)) (some n) (b0::bs) _::r=>S.lP x&&decide (S.T.gcl.lookup x=some c)&&decide (S.N[i]? =some n)&&decide (S.sc.names.lookup n=some .local)&&mB S b (b0::bs)&&mH S hs r|_=>false
end
structure Gs (X:Cx) (G:Gx) (S:Sn) (k:Nat) (E:St->XK):Prop extends Gd X G S k E where
 xok:G.cm=true->yd X E
 own:PassesOwn (model X.prog X.w) X.A X.env X.xe
 stk:X.stack=X.env::X.outer
 fr:X.env.frame=some X.env.locals
 fn:∀ x,X.fn x=true
variable {p:Pos}{elt:Expr}{gs:List Comprehension}{scope:Scope}
section
variable {X:Cx}{G:Gx}{S:Sn}{k:Nat}{E:St->XK}
def Gs.aA (g:Gs X G S k E)(e:Value):Gs (X.aA e) { G with cm:=false } S k (λ_ _ _=>False) where
 hK:=g.hK
 hT:=g.hT
 sc:=g.sc
 N:=g.N
 nd:=g.nd
 pass:=λY U H s e s' I h=>by
  obtain⟨e,H',C,dx,fs,T,_,_,_,_,_,_,_,_,_,q⟩:=h;exact q.elim
 cm:=λz=>by cases z
 room:=λz=>by cases z
 un:=g.un
 tab:=g.tab
 fns:=g.fns
 xok:=λz=>by cases z
 own:=PassesOwn.never
 stk:=g.stk
 fr:=g.fr
 fn:=g.fn
def ef (env:Env):∀ {is:List Nat}{ts:List Expr},lZ S is ts=true->(assignEach ts env).length=is.length/\(assignEach ts env).findIdx? (·.1)=none
 | [],[],_=>⟨rfl,rfl⟩
 | [],_::_,h=>by simp[lZ]at h
 |_::_,[],h=>by simp[lZ]at h
 |i::is,t::ts,h=>by
  cases t<;>simp[lZ]at h
  rename_i x p;obtain⟨h1,h2⟩:=ef env h.2;have e:assignEach (.Name x p::ts) env=(false,assign (.Name x p) env)::assignEach ts env:=rfl;rw[e];refine⟨by simp[h1],?_⟩;rw[List.findIdx?_cons];simp[h2]
def gO (g:Gs X G S k E):∀ {is:List Nat}{ts:List Expr},lZ S is ts=true->t6 X ts (gl is)
 | [],[],_=>λY s U H vs us Q I r h=>gX Y s U H vs us Q I r ⟨length_eq_zero_iff.mp h.1,by
   have:=h.2;have e:vs=[]:=length_eq_zero_iff.mp h.1;subst e;exact this⟩
 | [],_::_,h=>by simp[lZ]at h
 |_::_,[],h=>by simp[lZ]at h
 |i::is,t::ts,h=>by
  cases t<;>simp[lZ]at h
  rename_i x p;obtain⟨hi,hx⟩:=g.loc h.1;have h1:PG X (.Name x p) (cW i):=cN (by rw[g.N];exact g.nd) hi hx (.inl (g.fn x));have h2:=gO g h.2;intro Y s U H vs us Q I r q;refine cP h1 h2 rfl Y s U H vs us Q I r ?_;obtain⟨hl,q⟩:=q;cases vs with
  |nil=>simp at hl
  |cons v vs=>exact⟨v,vs,rfl,by simpa using hl,q⟩
def xK (g:Gs X G S k E)(hc:G.cm=true){t:yi}{e:Expr}(h:zk S t e=true):PG X e (λv U H Q=>wG U t G.R.K v H λσ1=>Q σ1 H):=by
 cases t with
 |nm i=>
  conv at h=>lhs;whnf
  split at h
  .obtain⟨hi,hx⟩:=g.loc h;exact cN (by rw[g.N];exact g.nd) hi hx (.inl (g.fn _))
  .cases h
 |tp is=>
  conv at h=>lhs;whnf
  split at h
  .intro Y s U H v u Q I r q;obtain⟨a,xs,rfl,hq,hl,q⟩:=q;obtain⟨e1,e2⟩:=ef X.env h;rw[g.hK]at hq;rcases hq with hq|hq
   .exact gu (g.cm hc) (gO g h) e1 e2 Y s U H _ u Q I r ⟨a,xs,rfl,hq,hl,hl,q⟩
   .exact uV (g.cm hc) (gO g h) e1 e2 I r hq hl ⟨hl,q⟩
  .cases h
 |nt i is=>
  conv at h=>lhs;whnf
  split at h
  .split at h
   .split at h
    .split at h
     .intro Y s U H v u Q I r q;simp only[lf]at h;obtain⟨a,y,b,ys,rfl,hq,hb,hl,q⟩:=q;obtain⟨e1,e2⟩:=ef X.env h.2;obtain⟨hi,hx⟩:=g.loc h.1;rw[g.hK]at hq hb;refine gu (n:=2) (g.cm hc) (cP (cN (by rw[g.N];exact g.nd) hi hx (.inl (g.fn _))) (cP (gu (g.cm hc) (gO g h.2) e1 e2) gX rfl) rfl) rfl rfl Y s U H _ u Q I r ⟨a,_,rfl,hq,rfl,y,_,rfl,.ref b,_,rfl,b,ys,rfl,hb,hl,hl,rfl,q⟩
     .cases h
    .cases h
   .cases h
  .cases h
def lN {e o i:Expr}(n:Nat)(env:Env):swapsWithSole [.Subscript o i p] e n env=pure false:=by
 cases e<;>rfl
def lQ {e o:Expr}{f:Str}(n:Nat)(env:Env):swapsWith e (some (.Attribute o f p)) n env=pure false:=by
 cases e<;>rfl
def jQ {e o i:Expr}(env:Env):swappedStores [.Subscript o i p] e env=pure none:=by
 cases e<;>rfl
def jr {o i:Expr}{pos:Pos}{env:Env}(h:bV i=true):∀ v,assign (.Subscript o i pos) env v=(do
   let ov <-holding [v] (eval o env)
   let iv <-holding [v,ov] (eval i env)
   standAt pos
   holding [v,ov,iv] (setItem ov iv v)
   release [v,ov,iv] []):=by
 intro v;cases i<;>first|rfl|cases h
def qX {i:Expr}(h:bV i=true):∀ ov iv new,augStore i ov iv new=(do holding [new,ov,iv] (setItem ov iv new);release [new,ov,iv] [];pure .next):=by
 intro ov iv new;cases i<;>first|rfl|cases h
def tD (op:Operator):ye X op (xp op):=by
 intro Y s U H x y v u Q I r1 r2 h;unfold xp at h
 split at h
 .exact uW Y s U H _ _ v u Q I r1 r2 ⟨_,_,rfl,rfl,h⟩
 .exact vg Y s U H _ _ v u Q I r1 r2 ⟨_,_,rfl,rfl,h⟩
 .exact h.elim
def tY (g:Gd X G S k E):vy X (l6 G.R.K):=by
 intro Y s U H x y v u Q I r1 r2 h;unfold l6 at h;rw[g.hK]at h
 split at h
 .obtain⟨xs,w,h1,h2,h3,q⟩:=h;exact nu Y s U H _ _ v u Q I r1 r2 ⟨_,xs,_,w,rfl,rfl,h1,h2,h3,q⟩
 .exact h.elim
def jl {py:Pos}{y:Str}{n:Nat}{env:Env}(hk:env.scope.kind=.function):∃ b,swapsWith (.ListComp elt gs scope p) (some (.Name y py)) n env=pure b/\(b=true->env.scope.names.lookup y=some .local):=by
 refine⟨_,rfl,λh=>?_⟩;simp only[lf]at h;have:=h.1.1.2;exact beq_iff_eq.mp this
end
set_option maxHeartbeats 2000000
variable {S:Sn}
section
variable {k:Nat}
def xT {x:Ex}(h:mE S x (.ListComp elt gs scope p)=true):(∃ e' sel it y py iter,x=.lc e' sel it/\gs=[⟨.Name y py,iter,[],0⟩]/\
  c6 S scope [y] sel=true/\mI S it (.Name y py) iter=true/\mE { S with sc:=b9 S.sc scope,N:=y::sel.filterMap λi=>S.N[i]? } e' elt=true/\bx iter=true)\/
  (∃ e' c sel it y py iter c',x=.lci e' c sel it/\gs=[⟨.Name y py,iter,[c'],0⟩]/\
  c6 S scope [y] sel=true/\mI S it (.Name y py) iter=true/\mE { S with sc:=b9 S.sc scope,N:=y::sel.filterMap λi=>S.N[i]? } e' elt=true/\mT { S with sc:=b9 S.sc scope,N:=y::sel.filterMap λi=>S.N[i]? } c c'=true/\bx iter=true)\/
  ∃ e' n sel it ts kt pt iter,x=.lct e' n sel it/\gs=[⟨.Tuple ts kt pt,iter,[],0⟩]/\
  c6 S scope (xg ts) sel=true/\nA { S with sc:=b9 S.sc scope,N:=xg ts++sel.filterMap λi=>S.N[i]? } (List.range n) ts=true/\(xg ts).length=n/\mI S it (.Tuple ts kt pt) iter=true/\mE { S with sc:=b9 S.sc scope,N:=xg ts++sel.filterMap λi=>S.N[i]? } e' elt=true/\bx iter=true:=by
 cases x<;>(try (cases(show false=true from h);done))
 all_goals (conv at h=>lhs;whnf)
 all_goals (iterate 5 (split at h<;>first|(cases h;done)|skip))
 all_goals (simp only[lf,decide_eq_true_eq]at h)
 all_goals first
  |exact .inl ⟨_,_,_,_,_,_,rfl,rfl,h.1.1.1,h.1.1.2,h.1.2,h.2⟩
  |exact .inr (.inl ⟨_,_,_,_,_,_,_,_,rfl,rfl,h.1.1.1.1,h.1.1.1.2,h.1.1.2,h.1.2,h.2⟩)
  |exact .inr (.inr ⟨_,_,_,_,_,_,_,_,rfl,rfl,h.1.1.1.1.1,h.1.1.1.1.2,h.1.1.1.2,h.1.1.2,h.1.2,h.2⟩)
def jf (e:Expr){x:Ex}(h:mE S x e=true):jP e=true\/∃ elt gs scope p,e=.ListComp elt gs scope p:=by
 cases e<;>first|exact .inl rfl|exact .inr ⟨_,_,_,_,rfl⟩|(cases x<;>cases(show false=true from h))
def wg {G:Gx}{X:Cx}{E:St->XK}(g:Gs X G S k E){i:Nat}{x:Str}{e:Ex}{e':Expr}{px:Pos}(hx:S.loc i x=true)(h:mE S e e'=true):PS X (.Assign [.Name x px] e' p) (λD U H=>wS (.asg i e) G D E U H):=by
 obtain⟨hi,hl⟩:=g.loc hx;have hN:X.N.Nodup:=by rw[g.N];exact g.nd
 rcases jf e' h with hn|⟨elt,gs,scope,pp,rfl⟩
 .exact nz hN hi hl (sE e g.toGd h) (cX hn _ _ _) (.inl (g.fn x))
 .intro Y s U H D I q;obtain⟨b,hb,hb2⟩:=jl (elt:=elt) (gs:=gs) (scope:=scope) (p:=pp) (py:=px) (y:=x) (n:=p.line) (env:=X.env) I.ok.kind;cases b with
  |false=>exact nz hN hi hl (sE e g.toGd h) hb (.inl (g.fn x)) Y s U H D I q
  |true=>
   rcases xT h with⟨e2,sel,it,y,py,iter,rfl,rfl,h1,h2,h3,h4⟩|⟨e2,c,sel,it,y,py,iter,c',rfl,rfl,h1,h2,h3,h5,h4⟩|⟨e2,n,sel,it,ts,kt,pt,iter,rfl,rfl,h1,h5,h6,h2,h3,h4⟩
   .obtain⟨hc,q⟩:=(show G.cm=true/\wI G it U H (λJ H1=>lA (λσ' H' Q'=>wE G e2 σ' H' Q' (λ_ _=>False)) J (none::dI U sel) H1 (λx H1=>D.nx (U.set i (some x)) H1)) (E U) from q);rw[pd]at q;obtain⟨cl,C⟩:=bh g.toGd I.ok h1;exact lB (g.cm hc) C (sI it g.toGd h2) (λs H fp=>sE e2 (g.toGd.comp C s H fp) h3) (aS h4 _) hN hi (hb2 rfl) hb Y s U H D I q
   .cases(show false=true from h)
   .cases(show false=true from h)
mutual
theorem sS:∀ (x:Sx){G:Gx}{X:Cx}{S:Sn}{E:St->XK},Gs X G S k E->∀ {st:Stmt},mS S x st=true->PS X st (λD U H=>wS x G D E U H)
 | .asg i e,G,X,S,E,g,st,h=>by
  sleep 3
  simp only[lf]at h;exact wg g h.1 h.2
 | .asgT is e,G,X,S,E,g,st,h=>by cases(show false=true from h)
 | .par is es,G,X,S,E,g,st,h=>by cases(show false=true from h)
 | .sub o i v,G,X,S,E,g,st,h=>by
  sleep 3
  simp only[lf]at h;obtain⟨⟨⟨h1,h2⟩,h3⟩,h4⟩:=h;exact ue (sE v g.toGd h3) (uA (sE o g.toGd h1) (sE i g.toGd h2) (kB g.un) (jr h4)) (lN _ _) (jQ _) rfl
 | .fld o f v,G,X,S,E,g,st,h=>by
  sleep 3
  simp only[lf,decide_eq_true_eq]at h;obtain⟨⟨h1,rfl⟩,h3⟩:=h;intro Y s U H D I q;have q':wE G v U H (λy H1=>wE G o U H1 (λx H2=>sW G f x y H2 (λH3=>D.nx U H3)) (E U)) (E U):=q;refine plainObj_wpAny_Assign_Attribute (ak (sE v g.toGd h3 Y s U H _ I q') λu s1 ⟨y,H1,I1,ry,q⟩=>ak (sE o g.toGd h1 Y s1 U H1 _ I1 q) λov s2 ⟨x,H2,I2,rx,q2⟩=>?_) (lQ _ _);unfold sW at q2;obtain⟨a,i,rfl,hna,q2⟩:=q2;obtain rfl:ov=Value.ref a:=rx;have n:=g.tab.na i f hna;rcases q2 with⟨dx,fs,ho,ea,l,q2⟩|⟨d,fs,fr,ho,ea,l,q2⟩|⟨fr,ho,ea,q2⟩
  .exact et I2 ea (g.tab.oc i ho).1 n l ry λs3 I3=>⟨U,_,I3,q2⟩
  .exact eh I2 ea (g.tab.xc i ho).1 n l ry λs3 I3=>⟨U,_,I3,q2⟩
  .exact eP I2 ea (g.tab.xc i ho).1 n ry λd s3 hd I3=>⟨U,_,I3,q2 d hd⟩
 | .aug i op e,G,X,S,E,g,st,h=>by cases(show false=true from h)
 | .augS o i op e,G,X,S,E,g,st,h=>by
  sleep 2
  simp only[lf,decide_eq_true_eq]at h;obtain⟨⟨⟨⟨h1,h2⟩,rfl⟩,h3⟩,h4⟩:=h;exact qt (sE o g.toGd h1) (sE i g.toGd h2) (tY g.toGd) (sE e g.toGd h3) (tD op) (kB g.un) (qX h4)
 | .augF o f op e,G,X,S,E,g,st,h=>by
  sleep 2
  simp only[lf,decide_eq_true_eq]at h;obtain⟨⟨⟨h1,rfl⟩,rfl⟩,h3⟩:=h;intro Y s U H D I q;have q':wE G o U H (λx H1=>iH G f x H1 (λu H2=>wE G e U H2 (λy H3=>xp op u y H3 λz H4=>sW G f x z H4 (λH5=>D.nx U H5)) (E U))) (E U):=q;refine wpAny_AugAssign_AttributeAny (ak (sE o g.toGd h1 Y s U H _ I q') λov s1 ⟨x,H1,I1,rx,qf⟩=>?_);unfold iH at qf;obtain⟨a,i,fs,v,rfl,ea,hna,l,q1⟩:=qf;obtain rfl:ov=Value.ref a:=rx;have n:=g.tab.na i f hna;have go:∀ (u:Value) (s2:Shared),Inv X Y U H1 s2->RelV v u->wpAny (model X.prog X.w) X.A (eval _ X.env) (λw s3=>wpAny (model X.prog X.w) X.A (inplaceOp op u w) (λnew s4=>wpAny (model X.prog X.w) X.A (setAttr (.ref a) f new) (λ_=>SP X Y D .next) X.xe s4) X.xe s3) X.xe s2:=λu s2 I2 ru=>by
   refine ak (sE e g.toGd h3 Y s2 U H1 _ I2 q1) λw s3 ⟨y,H3,I3,ry,q3⟩=>ak (tD op Y s3 U H3 v y u w _ I3 ru ry q3) λnew s4 ⟨z,H4,I4,rz,q4⟩=>?_
   unfold sW at q4;obtain⟨a',i',ea',hna',q5⟩:=q4;cases ea';have n':=g.tab.na i' f hna';rcases q5 with⟨dx,fs',ho,eb,l',q5⟩|⟨d,fs',fr,ho,eb,l',q5⟩|⟨fr,ho,eb,q5⟩
   .exact et I4 eb (g.tab.oc i' ho).1 n' l' rz λs5 I5=>⟨U,_,I5,q5⟩
   .exact eh I4 eb (g.tab.xc i' ho).1 n' l' rz λs5 I5=>⟨U,_,I5,q5⟩
   .exact eP I4 eb (g.tab.xc i' ho).1 n' rz λd s5 hd I5=>⟨U,_,I5,q5 d hd⟩
  rcases ea with⟨ho,dx,ea⟩|⟨ho,dx,fr,ea⟩
  .exact d4 I1 ea (g.tab.oc i ho).1 n l λu s2 I2 ru=>go u s2 I2 ru
  .exact fW I1 ea (g.tab.xc i ho).1 n l λu s2 I2 ru=>go u s2 I2 ru
 | .ret e,G,X,S,E,g,st,h=>by
  sleep 2
  exact vL (sE e g.toGd h)
 | .retN,G,X,S,E,g,st,h=>by cases(show false=true from h)
 | .pass,G,X,S,E,g,st,h=>by cases(show false=true from h)
 | .brk,G,X,S,E,g,st,h=>by cases(show false=true from h)
 | .cont,G,X,S,E,g,st,h=>by cases(show false=true from h)
 | .expr e,G,X,S,E,g,st,h=>by
  sleep 1
  simp only[lf]at h;exact qI (sE e g.toGd h.1) (cX h.2 _ _ _)
 | .ife c a b,G,X,S,E,g,st,h=>by
  sleep 1
  simp only[lf]at h;exact PS.imp (wk (PT.bb (sT c g.toGd h.1.1)) (sB a g h.1.2) (sB b g h.2)) λD U H q=>⟨_,q,λk H1 z=>by rwa [bD]at z⟩
 | .whl c b,G,X,S,E,g,st,h=>by cases(show false=true from h)
 | .for t it b,G,X,S,E,g,st,h=>by
  sleep 2
  simp only[lf]at h;obtain⟨⟨⟨h1,h2⟩,h3⟩,h4⟩:=h;intro Y s U H D I q
  conv at q=>whnf
  obtain⟨hc,q⟩:=q;unfold lV at q;exact tM g.own (g.cm hc) (sI it g.toGd h2) (xK g hc h1) (sB b g h3) (aS h4 _) Y s U H D I q
 | .rais e,G,X,S,E,g,st,h=>by
  sleep 3
  intro Y s U H D I q
  conv at q=>whnf
  obtain⟨hc,q⟩:=q;refine mq (g.xok hc) (g.cm hc) (PE.bb (sE e g.toGd h)) Y s U H D I ⟨_,q,λv H1 z=>?_⟩;obtain⟨a,i,dx,fs,ev,ea,hi,q⟩:=z;exact⟨a,_,dx,fs,ev,ea,(g.tab.xc i hi).1,q⟩
 | .tryx b hs,G,X,S,E,g,st,h=>by cases(show false=true from h)
theorem sB:∀ (x:fv){G:Gx}{X:Cx}{S:Sn}{E:St->XK},Gs X G S k E->∀ {st:List Stmt},mB S x st=true->sq X st (λD U H=>wB x G D E U H)
 | .nil,G,X,S,E,g,[],h=>qA
 | .nil,G,X,S,E,g,_::_,h=>by cases(show false=true from h)
 | .cons x xs,G,X,S,E,g,[],h=>by cases(show false=true from h)
 | .cons x xs,G,X,S,E,g,st::sts,h=>by
  have h:(mS S x st&&mB S xs sts)=true:=h;simp only[lf]at h;exact oB (sS x g h.1) (sB xs g h.2)
theorem sH:∀ (x:pG){G:Gx}{X:Cx}{S:Sn}{E:St->XK},Gs X G S k E->∀ {hs:List ExceptHandler},mH S x hs=true->∀ {Y:AE}{U:St}{H:Hp}{s:Shared}{e C:Addr}{dx:Option Addr}{fs:List (Str×V)}{T:Addr}{D:Ends},
  L2.Inv X Y U H s->H e=some (.exc C dx fs false)->X.s₀.heap.objs.size<=T->H T=none->(∀ p ∈ X.pn++Y,p.1≠T)->rW s.heap e T .none->wH x G D U e H->wpAny (model X.prog X.w) X.A (handleBy (.ref e) X.env hs) (SP X Y D) X.xe s
 | .nil,G,X,S,E,g,hs,h,Y,U,H,s,e,C,dx,fs,T,D,I,he,hT,hH,hp,st,q=>by
  simp only[wH]at q
 | .cons c i b hs,G,X,S,E,g,l,h,Y,U,H,s,e,C,dx,fs,T,D,I,he,hT,hH,hp,st,q=>by
  conv at h=>lhs;whnf
  split at h
  .simp only[lf,decide_eq_true_eq]at h;obtain⟨⟨⟨⟨⟨h1,h2⟩,h3⟩,h4⟩,h5⟩,h6⟩:=h;obtain⟨hg,hdb⟩:=g.glob h1;have hm:=g.tab.gcl _ _ (g.hT▸h2);obtain⟨j,dx',fs',kk,he',hxc,hsub,q⟩:=(show ∃ j dx fs k,H e=some (.exc (G.R.cad j) dx fs false)/\G.T.xc.contains j=true/\G.T.sub.lookup (j,c)=some k/\_ from q);have ee:=he.symm.trans he'
   injection ee with ee
   injection ee with e1 e2 e3 e4
   subst e1;obtain⟨_,hs2⟩:=g.tab.sub j c kk hsub;obtain⟨hs3,hs4⟩:=hs2 hxc;refine iy (i:=i) I he hT hH hp st (g.tab.xc j hxc).1 hs4 hs3 hg hm (by rw[g.N];exact g.nd) (by rw[g.N];exact h3) (by rw[g.sc];exact h4) hdb (λhk s2 J=>?_) λhk=>?_
   .rw[hk]at q;unfold dE at q;exact sB b (g.aA (.ref e)) h5 Y s2 _ H _ J q
   .rw[hk]at q;unfold dE at q;exact sH hs g h6 I he hT hH hp st q
  .cases h
end
end
abbrev aZ (T:Tab)(R:Rt):Nat->Nat->Sp
 |0,_=>λ_ _ _ _=>False
 |k+1,f=>λvs H Q E=>match T.fns[f]? with
  |some d=>vs.length=d.ps.length/\wB d.body ⟨T,R,aZ T R k,true⟩ { nx:=λ_ H'=>Q .non H',rt:=Q } (λ_=>E) (start d.N vs) H
  |none=>False
structure ly (K:W.Frag) (T:Tab) (f:Addr) (d:aO):Prop where
 ex:∃ (name qual:Str) (params:Arguments) (body:List Stmt) (scope:Scope) (dV kV doc pm cdv ct oc:Value) (od an:Option Addr) (osl:Array (Option Value)),
  K.lookup f=some ⟨oc,od,.func (W.fnOf name qual params body scope dV kV doc pm an cdv ct),osl⟩/\W.codeIn K cdv qual=true/\dR d.N d.ps scope/\mB ⟨T,scope,d.N⟩ d.body body=true/\
  ∀ j,∃ ds,Binds K (W.fnOf name qual params body scope dV kV doc pm an cdv ct) d.ps ds/\Vals (d.dfl.drop j) ds
def mL {P:Program}{w:World}{K:W.Frag}{mg:AF}{base:Heap}{T:Tab}{R:Rt}(tab:p0 K mg T R)(hK:R.K=K)(fs:∀ f d,T.fns[f]? =some d->ly K T (R.fad f) d):
  ∀ (k f:Nat) (d:aO),T.fns[f]? =some d->nG P w K mg base (2*k) (R.fad f) d (aZ T R k f)
 |0,f,d,hd=>by
  obtain⟨name,qual,params,body,scope,dV,kV,doc,pm,cdv,ct,oc,od,an,osl,lk,hcd,S,hm,hb⟩:=(fs f d hd).ex;exact⟨⟨_,⟨λ_ _ _ _ h=>h.elim,λ_ _ _ _ _ _ _ _ _ _ _ _ _ h=>h.elim⟩,hb⟩,λ_ _ _ _ _=>⟨λ_ _ _ _ h=>h.elim,λ_ _ _ _ _ _ _ _ _ _ _ _ _ h=>h.elim⟩⟩
 |k+1,f,d,hd=>by
  obtain⟨name,qual,params,body,scope,dV,kV,doc,pm,cdv,ct,oc,od,an,osl,lk,hcd,S,hm,hb⟩:=(fs f d hd).ex;have F:=xx (P:=P) (w:=w) (mg:=mg) (base:=base) (CX:=nK P w) (k:=2*k+1) (sp:=aZ T R (k+1) f) lk hcd S (λvs H Q E h=>?_) (λA outer s H vs Q E hr h=>?_)
  .refine⟨⟨_,F,hb⟩,λfd oc' od' osl' lk'=>?_⟩;have e:=lk.symm.trans lk'
   injection e with e
   injection e with e1 e2 e3 e4
   injection e3 with e3
   subst e3;exact F
  .simp only[aZ,hd]at h;exact h.1
  .simp only[aZ,hd]at h;refine⟨λD U H=>wB d.body ⟨T,R,aZ T R k,true⟩ D (λ_=>E) U H,?_,h.2⟩;have hx:=kS (P:=P) (w:=w) (K:=K) (mg:=mg) (base:=base) (N:=d.N) (qual:=qual) (scope:=scope) (f:=R.fad f) (cd:=cdv) (A:=A) (outer:=outer) (E:=E) (s:=s) (H:=H);refine sB (k:=2*k) d.body (G:=⟨T,R,aZ T R k,true⟩) (S:=⟨T,scope,d.N⟩) { hK:=hK,hT:=rfl,sc:=rfl,N:=rfl,nd:=S.nd,pass:=k8 hx,cm:=λ_=>rfl,room:=λ_=>hr,un:= ?_,tab:=tab,fns:=λf' d' hd'=>mL tab hK fs k f' d' hd',xok:=λ_=>hx,own:=PassesOwn.leaving,stk:=rfl,fr:=rfl,fn:=λ_=>rfl } hm;have:=hr.un;show(A.deeper _).units+200<cLine
   omega
abbrev dA (K:W.Frag)(n:Nat):Sp:=λvs H Q _=>∃ (a:Addr) (ns:List Int),vs=[.ref a]/\ax K H a (ns.map V.int)/\ns.length<=n/\∀ H',Q (.bl true) H'
variable {P:Program}
def oa {w:World}{H:Hp}{s:Shared}{e:Value}{s':Shared}(h:nK P w [] H s (λ_ _=>False) e s'):False:=by
 obtain⟨e,H',C,dx,fs,T,_,_,_,_,_,_,_,_,_,q⟩:=h;exact q
variable {K:W.Frag}{fd:FuncData}{ps:List Str}
def tU (h:Binds K fd ps []):∀ j:Nat,∃ ds,Binds K fd ps ds/\Vals (([]:List V).drop j) ds:=λj=>⟨[],h,by simp;exact .nil⟩
def qp {ds:List Value}{T:Addr}{o:Obj}{items:Array Value}{c n:Nat}(hd:fd.defaults=.ref T)(ho:K.lookup T=some o)(hs:o.data=.seq items c)(hn:n+ds.length=ps.length)
  (h:∀ us:List Value,us.length=n->∃ k:Option (Array Value)->Sem (List (Str×Value)),bindArgs fd ⟨us,[]⟩=seqItems? fd.defaults >>= k/\k (some items)=pure (ps.zip (us++ds))):Binds K fd ps ds:=λs us X hl=>by
 obtain⟨k,h1,h2⟩:=h us (by rw[ce]at hl;omega);exact W.binds_K X hd ho hs h1 h2
def fP:∀ {vs:List V}{us:List Value}(j:Nat),Vals vs us->Vals (vs.drop j) (us.drop j)
 |_,_,0,h=>h
 |_,_,j+1,.nil=>by simp;exact .nil
 |_::_,_::_,j+1,.cons _ h=>by simpa using fP j h
def jC {α β:Type} [BEq α] [LawfulBEq α] {x:α}{y:β}:∀ {l:List (α×β)},l.lookup x=some y->(x,y) ∈ l
 | [],h=>by simp at h
 |(a,b)::l,h=>by
  rw[lookup_cons]at h;cases e:x ==a with
  |true=>
   rw[e]at h;have:=beq_iff_eq.mp e;subst this
   injection h with h
   subst h;exact jp
  |false=>
   rw[e]at h;exact db _ (jC h)
def fk {α β:Type} [BEq α] [LawfulBEq α] {P:α->β->Prop}{l:List (α×β)}(h:∀ p ∈ l,P p.1 p.2):∀ x y,l.lookup x=some y->P x y:=λx y e=>h (x,y) (jC e)
def cO {α β γ:Type} [BEq α] [LawfulBEq α] [BEq β] [LawfulBEq β] {P:α->β->γ->Prop}{l:List ((α×β)×γ)}(h:∀ p ∈ l,P p.1.1 p.1.2 p.2):∀ x y z,l.lookup (x,y)=some z->P x y z:=λx y z e=>h ((x,y),z) (jC e)
def de {α:Type} [BEq α] [LawfulBEq α] {P:α->Prop}{l:List α}(h:∀ p ∈ l,P p):∀ x,l.contains x=true->P x:=λx e=>h x (by simpa using e)
def qG {α β:Type} [BEq α] [LawfulBEq α] [BEq β] [LawfulBEq β] {P:α->β->Prop}{l:List (α×β)}(h:∀ p ∈ l,P p.1 p.2):∀ x y,l.contains (x,y)=true->P x y:=λx y e=>h (x,y) (by simpa using e)
abbrev kC (P:Nat->aO->Prop):Nat->List aO->Prop
 |_,[]=>True
 |n,d::r=>P n d/\kC P (n+1) r
def sY {P:Nat->aO->Prop}:∀ {l:List aO}{n:Nat},kC P n l->∀ f d,l[f]? =some d->P (n+f) d
 | [],_,_,f,d,e=>by simp at e
 |a::l,n,h,0,d,e=>by
  have:a=d:=by simpa using e
  subst this;exact h.1
 |a::l,n,h,f+1,d,e=>by
  have:=sY h.2 f d (by simpa using e)
  rwa [Nat.add_assoc,Nat.add_comm 1 f]at this
def jJ {P:Nat->aO->Prop}{l:List aO}(h:kC P 0 l):∀ f d,l[f]? =some d->P f d:=λf d e=>by
 have:=sY h f d e
 rwa [Nat.zero_add]at this
def tV {w:World}{mg:AF}{base:Heap}{T:Tab}{R:Rt}(tab:p0 K mg T R)(hK:R.K=K)(fs:∀ f d,T.fns[f]? =some d->ly K T (R.fad f) d) (k fl:Nat) (d:aO) (hd:T.fns[fl]? =some d)
  {oc:Value}{od:Option Addr}{osl:Array (Option Value)}(lk:K.lookup (R.fad fl)=some ⟨oc,od,.func fd,osl⟩) (h:∀ vs H Q E,dA K 63 vs H Q E->aZ T R k fl vs H Q E):ba P w K mg base (nK P w) (2*k) (R.fad fl) fd d.ps (dA K 63):=
 ((mL tab hK fs k fl d hd).own _ _ _ _ lk).imp h
end L3
namespace L3
open PySem L2
abbrev hR:HO->HO
 | .lst _=>.lst []
 | .dK _=>.dK []
 | .dT _=>.dT []
 | .fq _ (.dK _)=>.dK []
 | .ins C dx _=>.ins C dx []
 | .exc C _ _ _=>.exc C none [] false
 |o=>o
abbrev fu (H H':Hp):Prop:=∀ a o,H a=some o->∃ o',H' a=some o'/\hR o'=hR o
def fu.tup {H H':Hp}(g:fu H H'){t:Addr}{xs:List V}(h:H t=some (.tup xs)):H' t=some (.tup xs):=by
 obtain⟨o',h1,h2⟩:=g t _ h;have key:∀ u:HO,hR u=.tup xs->u=.tup xs:=λu=>by cases u<;>intro e<;>first|exact e|cases e|(rename_i v;cases v<;>cases e)
 rw[key o' h2]at h1;exact h1
variable {H:Hp}{a:Addr}{xs:List V}
def xh (e:H a=some (.lst xs)):tyName (.ref a) H=some "list":=by
 show(match H a with|some (.lst _)=>some "list"|some (.tup _)=>some "tuple"|some (.dK _)=>some "dict"|some (.fq _ (.dK _))=>some "dict"|_=>none)=_;rw[e]
def uu (e:H a=some (.tup xs)):tyName (.ref a) H=some "tuple":=by
 show(match H a with|some (.lst _)=>some "list"|some (.tup _)=>some "tuple"|some (.dK _)=>some "dict"|some (.fq _ (.dK _))=>some "dict"|_=>none)=_;rw[e]
def fu.upd {o o':HO}(h:H a=some o)(e:hR o'=hR o):fu H (L2.upd H a o'):=λb u hb=>by
 by_cases z:b=a
 .subst z;rw[h]at hb;cases hb;exact⟨o',ag,e⟩
 .exact⟨u,(ab z).trans hb,rfl⟩
def fu.new {o':HO}(h:H a=none):fu H (L2.upd H a o'):=λb u hb=>⟨u,(ab λz=>by rw[z,h]at hb;cases hb).trans hb,rfl⟩
structure ay where
 p:Hp->(Addr->Prop)->Prop
 st:∀ H H' D,p H D->(∀ a,D a->H' a=H a)->fu H H'->p H' D
 up:∀ H D D',p H D->(∀ a,D a->D' a)->p H D'
abbrev pt (a:Addr)(o:HO):ay:=⟨λH D=>D a/\H a=some o,λH H' D h k _=>⟨h.1,(k a h.1).trans h.2⟩,λH D D' h k=>⟨k a h.1,h.2⟩⟩
abbrev tu (t:Addr)(xs:List V):ay:=⟨λH _=>H t=some (.tup xs),λH H' D h _ k=>k.tup h,λH D D' h _=>h⟩
abbrev pu (φ:Prop):ay:=⟨λ_ _=>φ,λ_ _ _ h _ _=>h,λ_ _ _ h _=>h⟩
abbrev ex {α:Type}(f:α->ay):ay:=⟨λH D=>∃ x,(f x).p H D,λH H' D ⟨x,h⟩ k t=>⟨x,(f x).st H H' D h k t⟩,λH D D' ⟨x,h⟩ k=>⟨x,(f x).up H D D' h k⟩⟩
abbrev kg (A B:ay):ay:=⟨λH D=>∃ D1 D2:Addr->Prop,(∀ a,D1 a->D a)/\(∀ a,D2 a->D a)/\(∀ a,D1 a->D2 a->False)/\A.p H D1/\B.p H D2,
 λH H' D ⟨D1,D2,s1,s2,dj,h1,h2⟩ k t=>⟨D1,D2,s1,s2,dj,A.st H H' D1 h1 (λa z=>k a (s1 a z)) t,B.st H H' D2 h2 (λa z=>k a (s2 a z)) t⟩,
 λH D D' ⟨D1,D2,s1,s2,dj,h1,h2⟩ k=>⟨D1,D2,λa z=>k a (s1 a z),λa z=>k a (s2 a z),dj,h1,h2⟩⟩
abbrev aP:List ay->Hp->(Addr->Prop)->Prop
 | [],_,_=>True
 |A::O,H,D=>∃ D1 D2:Addr->Prop,(∀ a,D1 a->D a)/\(∀ a,D2 a->D a)/\(∀ a,D1 a->D2 a->False)/\A.p H D1/\aP O H D2
abbrev Sep (O:List ay)(H:Hp):Prop:=∃ D:Addr->Prop,(∀ a,D a->H a≠none)/\aP O H D
inductive af (A:ay):List ay->List ay->Prop where
 |e {O:List ay}:af A (A::O) O
 |t {B:ay}{O Γ':List ay}(h:af A O Γ'):af A (B::O) (B::Γ')
variable {g:List ay}
section
variable {A B:ay}{O Γ':List ay}{H H':Hp}{a b p t:Addr}{o o':HO}{xs:List V}{φ:Prop}
def aP.st:∀ {O:List ay}{H H':Hp}{D:Addr->Prop},aP O H D->(∀ a,D a->H' a=H a)->fu H H'->aP O H' D
 | [],_,_,_,_,_,_=>True.intro
 |A::O,H,H',D,⟨D1,D2,s1,s2,dj,h1,h2⟩,k,t=>⟨D1,D2,s1,s2,dj,A.st H H' D1 h1 (λa z=>k a (s1 a z)) t,aP.st h2 (λa z=>k a (s2 a z)) t⟩
def aP.up:∀ {O:List ay}{H:Hp}{D D':Addr->Prop},aP O H D->(∀ a,D a->D' a)->aP O H D'
 | [],_,_,_,_,_=>True.intro
 |A::O,H,D,D',⟨D1,D2,s1,s2,dj,h1,h2⟩,k=>⟨D1,D2,λa z=>k a (s1 a z),λa z=>k a (s2 a z),dj,h1,h2⟩
def Sep.nil:Sep [] H:=⟨λ_=>False,λ_ z=>z.elim,True.intro⟩
def aP.pull:∀ {O Γ':List ay}{D:Addr->Prop},af A O Γ'->aP O H D->aP (A::Γ') H D:=by
 intro O Γ' D h
 induction h generalizing D with
 |e=>exact λz=>z
 |t h ih=>
  rintro⟨D1,D2,s1,s2,dj,h1,h2⟩;obtain⟨E1,E2,t1,t2,ej,k1,k2⟩:=ih h2;refine⟨E1,λa=>D1 a\/E2 a,λa z=>s2 a (t1 a z),λa z=>z.elim (s1 a) λz=>s2 a (t2 a z),λa z1 z2=>?_,k1,D1,E2,λa z=>.inl z,λa z=>.inr z,λa z1 z2=>dj a z1 (t2 a z2),h1,k2⟩;rcases z2 with z2|z2
  .exact dj a z2 (t1 a z1)
  .exact ej a z1 z2
def Sep.pull (h:af A O Γ')(s:Sep O H):Sep (A::Γ') H:=let⟨D,k,z⟩:=s;⟨D,k,aP.pull h z⟩
def aP.push:∀ {O Γ':List ay}{D:Addr->Prop},af A O Γ'->aP (A::Γ') H D->aP O H D:=by
 intro O Γ' D h
 induction h generalizing D with
 |e=>exact λz=>z
 |t h ih=>
  rintro⟨D1,D2,s1,s2,dj,h1,E1,E2,t1,t2,ej,k1,k2⟩;refine⟨E1,λa=>D1 a\/E2 a,λa z=>s2 a (t1 a z),λa z=>z.elim (s1 a) λz=>s2 a (t2 a z),λa z1 z2=>?_,k1,ih ⟨D1,E2,λa z=>.inl z,λa z=>.inr z,λa z1 z2=>dj a z1 (t2 a z2),h1,k2⟩⟩;rcases z2 with z2|z2
  .exact dj a z2 (t1 a z1)
  .exact ej a z1 z2
def Sep.push (h:af A O Γ')(s:Sep (A::Γ') H):Sep O H:=let⟨D,k,z⟩:=s;⟨D,k,aP.push h z⟩
def Sep.drop (s:Sep (A::O) H):Sep O H:=let⟨D,k,D1,D2,s1,s2,dj,h1,h2⟩:=s;⟨D2,λa z=>k a (s2 a z),h2⟩
def Sep.at (s:Sep (pt a o::O) H):H a=some o:=let⟨D,k,D1,D2,s1,s2,dj,h1,h2⟩:=s;h1.2
def Sep.atT (s:Sep (tu t xs::O) H):H t=some (.tup xs):=let⟨D,k,D1,D2,s1,s2,dj,h1,h2⟩:=s;h1
def Sep.pure (s:Sep (pu φ::O) H):φ:=let⟨D,k,D1,D2,s1,s2,dj,h1,h2⟩:=s;h1
def Sep.yN (h:φ)(s:Sep O H):Sep (pu φ::O) H:=let⟨D,k,h2⟩:=s;⟨D,k,λ_=>False,D,λ_ z=>z.elim,λ_ z=>z,λ_ z _=>z,h,h2⟩
def Sep.Ai (h:H t=some (.tup xs))(s:Sep O H):Sep (tu t xs::O) H:=let⟨D,k,h2⟩:=s;⟨D,k,λ_=>False,D,λ_ z=>z.elim,λ_ z=>z,λ_ z _=>z,h,h2⟩
def Sep.ne (s:Sep (pt a o::pt b o'::O) H):a≠b:=by
 obtain⟨D,k,D1,D2,s1,s2,dj,h1,E1,E2,t1,t2,ej,k1,k2⟩:=s;rintro rfl;exact dj a h1.1 (t1 a k1.1)
def Sep.set (s:Sep (pt a o::O) H)(n:hR o'=hR o):Sep (pt a o'::O) (upd H a o'):=by
 obtain⟨D,k,D1,D2,s1,s2,dj,h1,h2⟩:=s;refine⟨D,λb z=>?_,D1,D2,s1,s2,dj,⟨h1.1,ag⟩,aP.st h2 (λb z=>ab λe=>dj a h1.1 (e▸z)) (fu.upd h1.2 n)⟩
 by_cases e:b=a
 .rw[e,ag];exact λz=>by cases z
 .rw[ab e];exact k b z
def Sep.new (s:Sep O H)(h:H p=none):Sep (pt p o::O) (upd H p o):=by
 obtain⟨D,k,z⟩:=s;have ne:∀ b,D b->b≠p:=λb hb e=>k b hb (e▸h)
 refine⟨λb=>b=p\/D b,λb hb=>?_,λb=>b=p,D,λb e=>.inl e,λb e=>.inr e,λb e z=>ne b z e,⟨rfl,ag⟩,aP.st z (λb hb=>ab (ne b hb)) (fu.new h)⟩;rcases hb with rfl|hb
 .rw[ag];exact λz=>by cases z
 .rw[ab (ne b hb)];exact k b hb
def Sep.lC (s:Sep O H)(h:H p=none):Sep (tu p xs::O) (upd H p (.tup xs)):=Sep.Ai ag (Sep.drop (s.new (o:=.tup xs) h))
def Sep.star:Sep (kg A B::O) H ↔ Sep (A::B::O) H:=by
 constructor
 .rintro⟨D,k,D1,D2,s1,s2,dj,⟨E1,E2,t1,t2,ej,k1,k2⟩,h2⟩;refine⟨D,k,E1,λa=>E2 a\/D2 a,λa z=>s1 a (t1 a z),λa z=>z.elim (λz=>s1 a (t2 a z)) (s2 a),λa z1 z2=>?_,k1,E2,D2,λa z=>.inl z,λa z=>.inr z,λa z1 z2=>dj a (t2 a z1) z2,k2,h2⟩;rcases z2 with z2|z2
  .exact ej a z1 z2
  .exact dj a (t1 a z1) z2
 .rintro⟨D,k,D1,D2,s1,s2,dj,h1,E1,E2,t1,t2,ej,k1,k2⟩;refine⟨D,k,λa=>D1 a\/E1 a,E2,λa z=>z.elim (s1 a) λz=>s2 a (t1 a z),λa z=>s2 a (t2 a z),λa z1 z2=>?_,⟨D1,E1,λa z=>.inl z,λa z=>.inr z,λa z1 z2=>dj a z1 (t1 a z2),h1,k1⟩,k2⟩;rcases z1 with z1|z1
  .exact dj a z1 (t2 a z2)
  .exact ej a z1 z2
def Sep.zt {α:Type}{f:α->ay}:Sep (ex f::O) H ↔ ∃ x,Sep (f x::O) H:=by
 constructor
 .rintro⟨D,k,D1,D2,s1,s2,dj,⟨x,h1⟩,h2⟩;exact⟨x,D,k,D1,D2,s1,s2,dj,h1,h2⟩
 .rintro⟨x,D,k,D1,D2,s1,s2,dj,h1,h2⟩;exact⟨D,k,D1,D2,s1,s2,dj,⟨x,h1⟩,h2⟩
def Sep.get (s:Sep O H)(h:af (pt a o) O Γ'):H a=some o:=(s.pull h).at
def Sep.gr (s:Sep O H)(h:af (tu t xs) O Γ'):H t=some (.tup xs):=(s.pull h).atT
inductive a7 (A B:ay):List ay->List ay->Prop where
 |e {O:List ay}:a7 A B (A::O) (B::O)
 |t {C:ay}{O Γ':List ay}(h:a7 A B O Γ'):a7 A B (C::O) (C::Γ')
def af.k1 {b:ay}:af A (b::A::g) (b::g):=.t .e
def af.k2 {b c:ay}:af A (b::c::A::g) (b::c::g):=.t .k1
def af.k3 {b c d:ay}:af A (b::c::d::A::g) (b::c::d::g):=.t .k2
def a7.k1 {b:ay}:a7 A B (b::A::g) (b::B::g):=.t .e
def a7.k2 {b c:ay}:a7 A B (b::c::A::g) (b::c::B::g):=.t .k1
def a7.k3 {b c d:ay}:a7 A B (b::c::d::A::g) (b::c::d::B::g):=.t .k2
def a7.jZ (h:a7 A B O Γ'):∃ Δ,af A O Δ/\af B Γ' Δ:=by
 induction h with
 |e=>exact⟨_,.e,.e⟩
 |t h ih=>
  obtain⟨Δ,h1,h2⟩:=ih;exact⟨_,.t h1,.t h2⟩
def Sep.put (s:Sep O H)(h:a7 (pt a o) (pt a o') O Γ')(n:hR o'=hR o):Sep Γ' (upd H a o'):=by
 obtain⟨Δ,h1,h2⟩:=h.jZ;exact((s.pull h1).set n).push h2
inductive Sub:List ay->List ay->Prop where
 |refl {O:List ay}:Sub O O
 |nil {O:List ay}:Sub [] O
 |cons {A:ay}{O Γ' Δ:List ay}(h:af A O Δ) (r:Sub Γ' Δ):Sub (A::Γ') O
 |drop {A:ay}{O Γ':List ay}(r:Sub Γ' O):Sub Γ' (A::O)
def aP.sub:∀ {O Γ':List ay}{D:Addr->Prop},Sub Γ' O->aP O H D->aP Γ' H D:=by
 intro O Γ' D h
 induction h generalizing D with
 |refl=>exact λz=>z
 |nil=>exact λ_=>True.intro
 |cons h r ih=>
  intro z;obtain⟨D1,D2,s1,s2,dj,h1,h2⟩:=aP.pull h z;exact⟨D1,D2,s1,s2,dj,h1,ih h2⟩
 |drop r ih=>
  rintro⟨D1,D2,s1,s2,dj,h1,h2⟩;exact(ih h2).up s2
def Sep.sub (h:Sub Γ' O)(s:Sep O H):Sep Γ' H:=let⟨D,k,z⟩:=s;⟨D,k,aP.sub h z⟩
end
@[irreducible] noncomputable def ae (T:Tab) (R:Rt) (k f:Nat):Sp:=aZ T R k f
def iT:ae=aZ:=by
 funext T R k f
 unfold ae
 rfl
variable {Q:VK}
def wc {T:Tab}{R:Rt}{k f:Nat}{d:aO}{vs:List V}{E:XK}(hk:0<k)(hd:T.fns[f]? =some d)(hl:vs.length=d.ps.length)
  (h:wB d.body ⟨T,R,ae T R (k-1),true⟩ { nx:=λ_ H'=>Q .non H',rt:=Q } (λ_=>E) (start d.N vs) H):ae T R k f vs H Q E:=by
 rw[iT]at h⊢;cases k with
 |zero=>exact absurd hk (by decide)
 |succ k=>
  show(match T.fns[f]? with|some d=>_|none=>False);rw[hd];exact⟨hl,h⟩
variable {c:Bool}
def oq {A B:Prop}(h1:c=true->A)(h2:c=false->B):dE c A B:=by
 unfold dE;cases c
 .exact h2 rfl
 .exact h1 rfl
def aR {A B:Prop}(h:c=true)(h1:A):dE c A B:=by subst h;unfold dE;exact h1
def kl {A B:Prop}(h:c=false)(h1:B):dE c A B:=by subst h;unfold dE;exact h1
def tS {A B:Prop}(h:dE c B A):dE (!c) A B:=by
 unfold dE at h⊢;cases c
 .exact h
 .exact h
def f7 {p:Prop} [Decidable p] {A B:Prop}(h1:p->A)(h2:¬ p->B):dE (decide p) A B:=oq (λh=>h1 (of_decide_eq_true h)) λh=>h2 (of_decide_eq_false h)
def dB {i j:Int}{A B:Prop}(h1:i=j->A)(h2:i≠j->B):dE (je (.int i) (.int j)) A B:=by
 show dE (i ==j) A B;exact oq (λh=>h1 (by simpa using h)) λh=>h2 (by simpa using h)
variable {dx:Addr}{es:List V}{R:It->Hp->Prop}{n:Nat}
section
variable {K:W.Frag}{G:Gx}{O Γ':List ay}{H:Hp}{Q:VK}{a p:Addr}{o:HO}{xs ys:List V}{v w:V}{i:Int}{f:Str}
def al (s:Sep O H)(h:∀ p H',Sep (pt p o::O) H'->Q (.ref p) H'):∀ p,H p=none->Q (.ref p) (upd H p o):=λp hp=>h p _ (s.new hp)
def yI {C x:Addr}(s:Sep O H)(h1:H x=none)(h2:H dx=none)(h3:dx≠x):Sep (pt x (.ins C dx [])::pt dx (.own x)::O) (upd (upd H dx (.own x)) x (.ins C dx [])):=(s.new h2).new (by rw[ab h3.symm];exact h1)
def zI (s:Sep O H)(h:∀ p H',Sep (tu p xs::O) H'->Q (.ref p) H'):∀ p,H p=none->Q (.ref p) (upd H p (.tup xs)):=λp hp=>h p _ (s.lC hp)
def vF (s:Sep O H)(hl:es.length<=10000)(h:∀ p H',Sep (pt p (.lst es)::O) H'->Q (.ref p) H'):pX es H Q:=by unfold pX;exact⟨hl,al s h⟩
def tL (s:Sep O H)(hl:es.length<=10000)(h:∀ p H',Sep (pt p (.tup es)::O) H'->Q (.ref p) H'):lC es H Q:=by unfold lC;exact⟨hl,al s h⟩
def eA (e:H a=some (.lst xs))(hv:fR xs i=some v)(q:Q v H):kD K (.ref a) (.int i) H Q:=by unfold kD;exact .inl ⟨xs,i,v,rfl,.inl (ax.of e),hv,q⟩
def bG (e:H a=some (.tup xs))(hv:fR xs i=some v)(q:Q v H):kD K (.ref a) (.int i) H Q:=by unfold kD;exact .inl ⟨xs,i,v,rfl,.inr (a9.of e),hv,q⟩
def sv {R:Hp->Prop}{j:Nat}(s:Sep O H)(r:a7 (pt a (.lst xs)) (pt a (.lst ys)) O Γ')(hj:lG xs.length i=some j)(hx:xs.set j v=ys)(h:∀ H',Sep Γ' H'->R H'):lq (.ref a) (.int i) v H R:=by
 obtain⟨Δ,h1,h2⟩:=r.jZ;subst hx;unfold lq;exact .inl ⟨xs,i,j,rfl,s.get h1,hj,h _ (s.put r rfl)⟩
def wW (e:H a=some (.lst xs))(h0:0<=i)(hv:xs[i.toNat]? =some v)(q:Q v H):l6 K (.ref a) (.int i) H Q:=by unfold l6;exact⟨xs,v,ax.of e,h0,hv,q⟩
def cb {fs:List (Str×V)}(e:H a=some (.ins (G.R.cad n) dx fs))(ho:G.T.oc.contains n=true)(hn:G.T.na.contains (n,f)=true)(hl:fs.lookup f=some v)(q:Q v H):iH G f (.ref a) H Q:=by unfold iH;exact⟨a,n,fs,v,rfl,.inl ⟨ho,dx,e⟩,hn,hl,q⟩
def wj {fs fs':List (Str×V)}{R:Hp->Prop}(s:Sep O H)(r:a7 (pt a (.ins (G.R.cad n) dx fs)) (pt a (.ins (G.R.cad n) dx fs')) O Γ')(ho:G.T.oc.contains n=true)(hn:G.T.na.contains (n,f)=true)(hl:fs.length<1000)(hf:a3 f v fs=fs')(h:∀ H',Sep Γ' H'->R H'):sW G f (.ref a) v H R:=by
 obtain⟨Δ,h1,h2⟩:=r.jZ;subst hf;unfold sW;exact⟨a,n,rfl,hn,.inl ⟨dx,fs,ho,s.get h1,hl,h _ (s.put r rfl)⟩⟩
def bZ {n t:String}{b:Bool}(ht:tyName v H=some t)(hb:G.T.subB.lookup (t,n)=some b)(q:Q (.bl b) H):iQ G (.ty n) v H Q:=by unfold iQ;exact .inl ⟨t,b,ht,hb,q⟩
def g7 (e:H a=some (.lst xs))(q:Q (.int xs.length) H):fA G .len [.ref a] H Q:=by unfold fA;exact⟨_,xs.length,rfl,.inl ⟨xs,ax.of e,rfl⟩,q⟩
def gB (e:H a=some (.tup xs))(q:Q (.int xs.length) H):fA G .len [.ref a] H Q:=by unfold fA;exact⟨_,xs.length,rfl,.inr ⟨xs,a9.of e,rfl⟩,q⟩
def uT (h0:0<=i)(h1:i<n):lG n i=some i.toNat:=by
 unfold lG;rw[if_pos h0,if_pos h1]
def j3 (s:Sep O H)(e:H a=some (.lst xs))(h:∀ p H',Sep (pt p (.lst xs)::O) H'->Q (.ref p) H'):fA G .list [.ref a] H Q:=by unfold fA;exact .inl ⟨_,xs,rfl,.inl (ax.of e),al s h⟩
def mK (s:Sep O H)(e:H a=some (.tup xs))(h:∀ p H',Sep (pt p (.lst xs)::O) H'->Q (.ref p) H'):fA G .list [.ref a] H Q:=by unfold fA;exact .inl ⟨_,xs,rfl,.inr (a9.of e),al s h⟩
def gp (s:Sep O H)(e:H a=some (.lst xs))(h:∀ p H',Sep (tu p xs::O) H'->Q (.ref p) H'):fA G .tuple [.ref a] H Q:=by unfold fA;exact⟨_,xs,rfl,.inl ⟨ax.of e,zI s h⟩⟩
def eU (s:Sep O H){b:Addr}(e1:H a=some (.lst xs))(e2:H b=some (.lst ys))(hl:xs.length+ys.length<=100000)(h:∀ p H',Sep (pt p (.lst (xs++ys))::O) H'->Q (.ref p) H'):rQ K a b H Q:=by unfold rQ;exact .inl ⟨xs,ys,e1,e2,hl,al s h⟩
def wQ (s:Sep O H)(e:H a=some (.lst xs))(h1: -1000<=i)(h2:i<=1000)(h3:xs.length<=1000)(h:∀ p H',Sep (pt p (.lst (pc i.toNat xs).flatten)::O) H'->Q (.ref p) H'):qo K a i H Q:=by unfold qo;exact .inl ⟨xs,e,h1,h2,h3,al s h⟩
def d9 {y:V}(s:Sep O H)(r:a7 (pt a (.lst xs)) (pt a (.lst (xs++[y]))) O Γ')(hl:xs.length<=10000)(h:∀ H',Sep Γ' H'->Q .non H'):qb .append a xs [y] H Q:=by unfold qb;exact⟨_,rfl,hl,h _ (s.put r rfl)⟩
def wa (s:Sep O H)(r:a7 (pt a (.lst xs)) (pt a (.lst [])) O Γ')(h:∀ H',Sep Γ' H'->Q .non H'):qb .clear a xs [] H Q:=by unfold qb;exact⟨rfl,h _ (s.put r rfl)⟩
def yO {lo hi:Option Int}(s:Sep O H)(e:ax K H a xs)(h:∀ p H',Sep (pt p (.lst (hX xs lo hi))::O) H'->Q (.ref p) H'):sR K (.ref a) lo hi H Q:=by unfold sR;exact .inl ⟨xs,e,al s h⟩
def jI (e:H a=some (.lst xs))(h:R (vZ K a) H):gU K a H R:=by unfold gU;exact .inl ⟨⟨xs,ax.of e⟩,h⟩
def y0 (e:H a=some (.tup xs))(h:R (vW K a) H):gU K a H R:=by unfold gU;exact .inr (.inl ⟨⟨xs,a9.of e⟩,h⟩)
end
variable {x:V}
section
variable {K:W.Frag}{H:Hp}{Q:VK}
def fh (f:aw x=true):je x x=true:=by
 cases x<;>simp[aw]at f<;>simp[je]
def rF {y:V}(fx:aw x=true)(fy:aw y=true)(q:Q (.bl (je x y)) H):cH K false x y H Q:=by unfold cH;exact .inr ⟨0,_,.flat fx fy,by decide,.inl fx,q⟩
def qK {y:V}(fx:aw x=true)(fy:aw y=true)(q:Q (.bl (!je x y)) H):cH K true x y H Q:=by unfold cH;exact .inr ⟨0,_,.flat fx fy,by decide,.inl fx,q⟩
def uY {b:Addr}(h:di K H n (.ref a) (.ref b) c)(hn:n<=100)(ne:a≠b)(q:Q (.bl c) H):cH K false (.ref a) (.ref b) H Q:=by unfold cH;exact .inr ⟨n,c,h,hn,.inr (.inl λz=>ne (V.ref.inj z)),q⟩
def pw {b:Addr}(h:di K H n (.ref a) (.ref b) c)(hn:n<=100)(ne:a≠b)(q:Q (.bl (!c)) H):cH K true (.ref a) (.ref b) H Q:=by unfold cH;exact .inr ⟨n,c,h,hn,.inr (.inl λz=>ne (V.ref.inj z)),q⟩
end
variable {K:W.Frag}{rest:St}{te:TE}
section
variable {D:Ends}{F:(St->Hp->Prop)->V->St->Hp->Prop}{U:St}{H:Hp}
def cI {lo:Int}(I:Nat->St->Hp->Prop)(h0:I 0 U H)(hs:∀ j U H,j<n->I j U H->F (I (j+1)) (.int (lo+j)) U H) (hd:∀ U H,I n U H->D.nx U H):lV (sr lo n) D F U H:=by
 unfold lV;refine⟨λi m U H=>m=n-i/\i<=n/\I i U H,⟨n,by simp,Nat.zero_le _,h0⟩,λi m U H ⟨e,hi,h⟩=>?_⟩
 by_cases hlt:i<n
 .refine .inr ⟨hlt,I (i+1),λσ' H' h'=>⟨n-(i+1),by omega,rfl,hlt,h'⟩,λx H' y=>?_⟩;obtain⟨rfl,rfl⟩:=y;exact hs i U H' hlt h
 .have:i=n:=by omega
  subst this;exact .inl ⟨nl _,hd U H h⟩
def qP (I:Nat->St->Hp->Prop)(h0:I 0 U H)(hl:∀ j U H,I j U H->ax K H a xs)
  (hs:∀ j x U H,xs[j]? =some x->I j U H->F (I (j+1)) x U H) (hd:∀ U H,I xs.length U H->D.nx U H):lV (vZ K a) D F U H:=by
 unfold lV;refine⟨λi m U H=>m=xs.length-i/\i<=xs.length/\I i U H,⟨xs.length,by simp,Nat.zero_le _,h0⟩,λi m U H ⟨e,hi',h⟩=>?_⟩
 by_cases hlt:i<xs.length
 .refine .inr ⟨⟨xs,xs[i],hl i U H h,io hlt⟩,I (i+1),λσ' H' h'=>⟨xs.length-(i+1),by omega,rfl,hlt,h'⟩,λx H' y=>?_⟩;obtain⟨rfl,hy⟩:=y;exact hs i x U H' (hy xs (hl i U H' h)) h
 .have:i=xs.length:=by omega
  subst this;exact .inl ⟨⟨xs,hl _ U H h,nl _⟩,hd U H h⟩
@[irreducible] noncomputable def dw (I:Addr->List V->Hp->Prop) (D:Addr) (ys:List V) (rest:St) (x:Option V):VK:=λv H3=>∃ zs,H3 D=some (.lst zs)/\zs.length<bm/\∃ ys2 x2,x::rest=x2::rest/\ys2.length=ys.length+1/\I D ys2 (upd H3 D (.lst (zs++[v])))
def dw.mk {I:Addr->List V->Hp->Prop}{D:Addr}{ys:List V}{x:Option V}{v:V}{H3:Hp}(h1:H3 D=some (.lst ys))(hl:ys.length<=999)(h2:I D (ys++[v]) (upd H3 D (.lst (ys++[v])))):dw I D ys rest x v H3:=
 by unfold dw;exact⟨ys,h1,bT nofun,ys++[v],x,rfl,by simp,h2⟩
def jz (hn:n<=1000)(I:Addr->List V->Hp->Prop)(h0:∀ D,H D=none->I D [] (upd H D (.lst [])))
  (hs:∀ D ys H',ys.length<n->I D ys H'->te (some (.int (0+(ys.length:Nat)))::rest) H' (dw I D ys rest (some (.int (0+(ys.length:Nat))))))
  (hd:∀ D ys H',ys.length=n->I D ys H'->Q (.ref D) H'):lA te (sr 0 n) (none::rest) H Q:=by
 unfold lA;intro D hD;refine⟨λi m σ' H'=>m=n-i/\i<=n/\∃ ys x0,σ'=x0::rest/\ys.length=i/\I D ys H',⟨n,by simp,Nat.zero_le _,[],none,rfl,rfl,h0 D hD⟩,λi m σ' H' ⟨e,hi,ys,x0,e1,e2,h⟩=>?_⟩;subst e1 e2
 by_cases hlt:ys.length<n
 .refine .inr ⟨hlt,λσ2 H2=>∃ ys2 x2,σ2=x2::rest/\ys2.length=ys.length+1/\I D ys2 H2,λσ2 H2 ⟨ys2,x2,f1,f2,f3⟩=>⟨n-(ys.length+1),by omega,rfl,hlt,ys2,x2,f1,f2,f3⟩,λx H'' y=>?_⟩;obtain⟨e1,e2⟩:=y;subst e1 e2;have z:=hs D ys H'' hlt h;unfold dw at z;exact z
 .have:ys.length=n:=by omega
  exact .inl ⟨Nat.le_of_eq this.symm,hd D ys H' this h⟩
def bR (hn:xs.length<=1000)(I:Addr->List V->Hp->Prop)(hl:∀ D ys H,I D ys H->ax K H a xs) (h0:∀ D,H D=none->I D [] (upd H D (.lst [])))
  (hs:∀ D ys x H',xs[ys.length]? =some x->I D ys H'->te (some x::rest) H' (dw I D ys rest (some x)))
  (hd:∀ D ys H',ys.length=xs.length->I D ys H'->Q (.ref D) H'):lA te (vZ K a) (none::rest) H Q:=by
 unfold lA;intro D hD;refine⟨λi m σ' H'=>m=xs.length-i/\i<=xs.length/\∃ ys x0,σ'=x0::rest/\ys.length=i/\I D ys H',⟨xs.length,by simp,Nat.zero_le _,[],none,rfl,rfl,h0 D hD⟩,λi m σ' H' ⟨e,hi,ys,x0,e1,e2,h⟩=>?_⟩;subst e1 e2
 by_cases hlt:ys.length<xs.length
 .refine .inr ⟨⟨xs,xs[ys.length],hl D ys H' h,io hlt⟩,λσ2 H2=>∃ ys2 x2,σ2=x2::rest/\ys2.length=ys.length+1/\I D ys2 H2,λσ2 H2 ⟨ys2,x2,f1,f2,f3⟩=>⟨xs.length-(ys.length+1),by omega,rfl,hlt,ys2,x2,f1,f2,f3⟩,λx H'' y=>?_⟩;obtain⟨e1,hy⟩:=y;subst e1;have z:=hs D ys x H'' (hy xs (hl D ys H'' h)) h;unfold dw at z;exact z
 .have:ys.length=xs.length:=by omega
  exact .inl ⟨⟨xs,hl D ys H' h,Nat.le_of_eq this.symm⟩,hd D ys H' this h⟩
def jV {K:W.Frag}{G:Gx}{bs:List Bool}(hc:G.cm=true)(e:H a=some (.lst (bs.map V.bl)))(q:Q (.bl (bs.all id)) H):fA G .all [.ref a] H Q:=by unfold fA;exact⟨hc,_,bs,rfl,ax.of e,q⟩
def uS (q:Q (.bl (decide (x=.non))) H):pE false x .non H Q:=by unfold pE;exact q
def kz (q:Q (.bl (!decide (x=.non))) H):pE true x .non H Q:=by unfold pE;exact q
end
variable {D:List (Str×Str)}{z:Str}
section
variable {K:W.Frag}{G:Gx}{O Γ':List ay}{H:Hp}{Q:VK}{a b:Addr}{xs ys:List V}{v:V}
def yU {kvs:List (Key×V)}{k:Key}(e:H a=some (.dK kvs))(hv:dG kvs k=some v)(q:Q v H):kD K (.ref a) (kV k) H Q:=by unfold kD;exact .inr (.inl ⟨v,.inl ⟨kvs,k,.inl e,rfl,hv.symm⟩,q⟩)
def m8 (hn:xs.length<=1000)(I:Addr->List V->Hp->Prop)(hl:∀ D ys H,I D ys H->a9 K H a xs) (h0:∀ D,H D=none->I D [] (upd H D (.lst [])))
  (hs:∀ D ys x H',xs[ys.length]? =some x->I D ys H'->te (some x::rest) H' (dw I D ys rest (some x)))
  (hd:∀ D ys H',ys.length=xs.length->I D ys H'->Q (.ref D) H'):lA te (vW K a) (none::rest) H Q:=by
 unfold lA;intro D hD;refine⟨λi m σ' H'=>m=xs.length-i/\i<=xs.length/\∃ ys x0,σ'=x0::rest/\ys.length=i/\I D ys H',⟨xs.length,by simp,Nat.zero_le _,[],none,rfl,rfl,h0 D hD⟩,λi m σ' H' ⟨e,hi,ys,x0,e1,e2,h⟩=>?_⟩;subst e1 e2
 by_cases hlt:ys.length<xs.length
 .refine .inr ⟨⟨xs,xs[ys.length],hl D ys H' h,io hlt⟩,λσ2 H2=>∃ ys2 x2,σ2=x2::rest/\ys2.length=ys.length+1/\I D ys2 H2,λσ2 H2 ⟨ys2,x2,f1,f2,f3⟩=>⟨xs.length-(ys.length+1),by omega,rfl,hlt,ys2,x2,f1,f2,f3⟩,λx H'' y=>?_⟩;obtain⟨e1,hy⟩:=y;subst e1;have z:=hs D ys x H'' (hy xs (hl D ys H'' h)) h;unfold dw at z;exact z
 .have:ys.length=xs.length:=by omega
  exact .inl ⟨⟨xs,hl D ys H' h,Nat.le_of_eq this.symm⟩,hd D ys H' this h⟩
def xQ (e:a9 K H a xs)(h:R (vW K a) H):gU K a H R:=by unfold gU;exact .inr (.inl ⟨⟨xs,e⟩,h⟩)
def yD {i:Str}(e:qq K a D)(q:Q (.bl (D.lookup i).isSome) H):sx K false (.str i) (.ref a) H Q:=by unfold sx;exact .inr (.inr (.inl ⟨rfl,D,i,e,rfl,q⟩))
def yM {i w:Str}(e:qq K a D)(hw:D.lookup i=some w)(q:Q (.str w) H):kD K (.ref a) (.str i) H Q:=by unfold kD;exact .inr (.inr ⟨D,i,w,e,rfl,hw,q⟩)
def yW {lo hi:Option Int}(hz:z.length<=100000)(q:Q (.str (iK z lo hi)) H):sR K (.str z) lo hi H Q:=by unfold sR;exact⟨z,rfl,hz,q⟩
def pR {n:Int}(hn:PySem.intText? z=some n)(hl:z.length<=640)(q:Q (.int n) H):fA G .int [.str z] H Q:=by unfold fA;exact .inr ⟨z,n,rfl,hn,hl,q⟩
def ou {y:Str}(s:Sep O H)(hy:(y.length ==0)=false)(hz:z.length<=100000)(q:∀ p H',Sep (pt p (.lst ((Txt.split z y).map V.str))::O) H'->Q (.ref p) H'):rp K .split z (.str y) H Q:=by unfold rp jN;exact⟨z,y,rfl,rfl,hy,hz,al s q⟩
def gj {y:Str}(q:Q (.bl (Txt.startswith z y)) H):rp K .starts z (.str y) H Q:=by unfold rp g4;exact⟨z,y,rfl,rfl,q⟩
def dS {G:Gx}{zs:List Str}(e:H a=some (.lst (zs.map V.str)))(hw:(zs.map (·.length)).sum+zs.length<=1000000)(hz:z.length<=16)(q:Q (.str (Txt.join z zs)) H):rp K .join z (.ref a) H Q:=by unfold rp rJoin;exact⟨z,a,zs,rfl,rfl,ax.of e,hw,hz,q⟩
def y8 {c:Nat}{i:Int}(hz:z.length<=100000)(hv:fR z.cps.toList i=some c)(q:Q (.str ⟨#[c]⟩) H):kD K (.str z) (.int i) H Q:=by unfold kD;exact⟨i,c,rfl,hz,hv,q⟩
def jX (hn:z.cps.size<=1000)(I:Addr->List V->Hp->Prop)(h0:∀ D,H D=none->I D [] (upd H D (.lst [])))
  (hs:∀ D ys c H',z.cps[ys.length]? =some c->I D ys H'->te (some (.str ⟨#[c]⟩)::rest) H' (dw I D ys rest (some (.str ⟨#[c]⟩))))
  (hd:∀ D ys H',ys.length=z.cps.size->I D ys H'->Q (.ref D) H'):lA te (vI z) (none::rest) H Q:=by
 unfold lA;intro D hD;refine⟨λi m σ' H'=>m=z.cps.size-i/\i<=z.cps.size/\∃ ys x0,σ'=x0::rest/\ys.length=i/\I D ys H',⟨z.cps.size,by simp,Nat.zero_le _,[],none,rfl,rfl,h0 D hD⟩,λi m σ' H' ⟨e,hi,ys,x0,e1,e2,h⟩=>?_⟩;subst e1 e2
 by_cases hlt:ys.length<z.cps.size
 .refine .inr ⟨hlt,λσ2 H2=>∃ ys2 x2,σ2=x2::rest/\ys2.length=ys.length+1/\I D ys2 H2,λσ2 H2 ⟨ys2,x2,f1,f2,f3⟩=>⟨z.cps.size-(ys.length+1),by omega,rfl,hlt,ys2,x2,f1,f2,f3⟩,λx H'' y=>?_⟩;obtain⟨e1,c,hc,rfl⟩:=y;subst e1;have w:=hs D ys c H'' hc h;unfold dw at w;exact w
 .have:ys.length=z.cps.size:=by omega
  exact .inl ⟨Nat.le_of_eq this.symm,hd D ys H' this h⟩
end
end L3
namespace L3
open PySem PySem.Spec PySem.W L2
variable {ps:List Str}
def pf:∀ {us:List Value}{n:Str},us.length=ps.length->n ∈ ps->((ps.zip us).lookup n).isNone=false:=by
 induction ps with
 |nil=>intro us n _ h;cases h
 |cons p ps ih=>
  intro us n hl h;cases us with
  |nil=>cases hl
  |cons u us=>
   rw[zip_cons_cons,lookup_cons];cases e:n ==p with
   |true=>rfl
   |false=>
    rcases le.mp h with rfl|h
    .rw[beq_self_eq_true]at e;cases e
    .exact ih (Nat.succ.inj hl) h
def jx:∀ {ps:List Str}{us:List Value},ps.Nodup->us.length=ps.length->∀ {L:List (Str×Value)},(∀ n ∈ ps,L.lookup n=(ps.zip us).lookup n)->ps.filterMap (λn=>(L.lookup n).map (n,·))=ps.zip us
 | [],us,_,_,L,_=>rfl
 |p::ps,[],_,hl,L,_=>by cases hl
 |p::ps,u::us,nd,hl,L,hL=>by
  have h0:L.lookup p=some u:=by rw[hL p jp,zip_cons_cons,lookup_cons,beq_self_eq_true]
  rw[filterMap_cons,h0,zip_cons_cons];show(p,u)::_=_;rw[jx (nodup_cons.mp nd).2 (Nat.succ.inj hl) (L:=L)];intro n hn;rw[hL n (db _ hn),zip_cons_cons,lookup_cons];have:(n ==p)=false:=by
   cases e:n ==p with
   |false=>rfl
   |true=>
    have:=beq_iff_eq.mp e;subst this;exact absurd hn (nodup_cons.mp nd).1
  rw[this]
variable {fd:FuncData}
def iI (nd:ps.Nodup)(h1:fd.params.posonlyargs=[])(h2:fd.params.args.map (·.arg)=ps)(h3:fd.params.kwonlyargs=[])(h4:fd.params.vararg=none)(h5:fd.params.kwarg=none)(h6:fd.defaults=.none)(us:List Value)(hl:us.length=ps.length):
  bindArgs fd ⟨us,[]⟩=pure (ps.zip us):=by
 obtain⟨name,qual,⟨po,as,va,ko,kd,ka,df⟩,body,scope,glo,bb,dV,kV,doc,pm,an,cdv,ct,bu⟩:=fd;dsimp only at h1 h2 h3 h4 h5 h6;subst h1 h2 h3 h4 h5 h6;generalize hps:as.map (·.arg)=ps at nd hl⊢;have e1:seqItems? (Value.none)=(pure none:Sem (Option (Array Value))):=rfl;have e2:∀ f:Str->Bool,(∀ n ∈ ps,f n=false)->ps.filter f=[]:=λf h=>List.filter_eq_nil_iff.mpr λa ha=>by rw[h a ha];decide
 have e3:¬ (us.length>ps.length):=by omega
 have e4:=e2 (λn=>((ps.zip us).lookup n).isNone) λn hn=>pf hl hn
 have e5:=jx nd hl (L:=ps.zip us) λ_ _=>rfl
 unfold bindArgs;dsimp only[List.map_nil,nil_append,append_nil];rw[hps];simp[e1,e3,e4,e5]
abbrev gD (S:List (Str×Value))(x:Str×Value):List (Str×Value):=if(S.lookup x.1).isNone=true then S++[x] else S
def sg:∀ {L:List (Str×Value)}{S:List (Str×Value)},(∀ x ∈ L,(S.lookup x.1).isNone=false)->L.foldl gD S=S
 | [],_,_=>rfl
 |x::L,S,h=>by
  have h0:gD S x=S:=by
   unfold gD;rw[if_neg (by rw[h x jp];decide)]
  rw[foldl_cons,h0];exact sg λy hy=>h y (db _ hy)
def se:∀ {L:List (Str×Value)}{S:List (Str×Value)},(L.map (·.1)).Nodup->(∀ x ∈ L,S.lookup x.1=none)->L.foldl gD S=S++L
 | [],S,_,_=>by rw[append_nil];rfl
 |x::L,S,nd,h=>by
  have h0:gD S x=S++[x]:=by
   unfold gD;rw[if_pos (by rw[h x jp];rfl)]
  rw[map_cons]at nd;rw[foldl_cons,h0,se (nodup_cons.mp nd).2]
  .rw[im];rfl
  .intro y hy;have hne:(y.1 ==x.1)=false:=by
    cases e:y.1 ==x.1 with
    |false=>rfl
    |true=>
     have e:=beq_iff_eq.mp e;exact absurd (List.mem_map_of_mem (f:=(·.1)) hy) (e▸(nodup_cons.mp nd).1)
   obtain⟨a,b⟩:=x;rw[List.lookup_append,h y (db _ hy),lookup_cons,hne]
   rfl
def tm {n:Str}:∀ {L:List (Str×Value)},(∀ x ∈ L,x.1≠n)->L.lookup n=none
 | [],_=>rfl
 |(a,b)::L,h=>by
  have:(n ==a)=false:=by
   cases e:n ==a with
   |false=>rfl
   |true=>exact absurd (beq_iff_eq.mp e).symm (h (a,b) jp)
  rw[lookup_cons,this];exact tm λx hx=>h x (db _ hx)
variable {A:List Str}{B:List Value}
def gC {x:Str×Value}(h:x ∈ A.zip B):x.1 ∈ A:=by
 obtain⟨a,b⟩:=x;exact(of_mem_zip h).1
def zip_map (h:A.length<=B.length):(A.zip B).map (·.1)=A:=List.map_fst_zip h
def hU {B:List Str}{us:List Value}(h:A.length=us.length):(A++B).zip us=A.zip us:=by
 have:=zip_append (l₁:=A) (l₂:=us) (r₁:=B) (r₂:=[]) h;rw[append_nil,List.zip_nil_right,append_nil]at this;exact this
def qV {B:List Str}{us D1 D2:List Value}(nd:(A++B).Nodup)(h1:A.length=us.length)(h2:B.length=D2.length)(h3:D1.length<=A.length):
  (((A++B).drop (A.length-D1.length)).zip (D1++D2)).foldl gD ((A++B).zip us)=(A++B).zip (us++D2):=by
 have a:=sg (L:=(A.drop (A.length-D1.length)).zip D1) (S:=(A++B).zip us) λx hx=>by
  rw[hU h1];exact pf h1.symm (List.mem_of_mem_drop (gC hx))
 have b:=se (L:=B.zip D2) (S:=(A++B).zip us) (by rw[zip_map nofun];exact(List.nodup_append.mp nd).2.1) λx hx=>by
  refine tm λy hy e=>?_
  rw[hU h1]at hy;exact(List.nodup_append.mp nd).2.2 y.1 (gC hy) x.1 (gC hx) e
 rw[List.drop_append_of_le_length nofun,zip_append (by rw[ii];omega),List.foldl_append,a,b,hU h1,zip_append h1]
def o7 {us ds:List Value}(nd:ps.Nodup)(h1:us.length<=ps.length)(h2:ds.length<=ps.length)(h3:ps.length<=us.length+ds.length):
  ((ps.drop (ps.length-ds.length)).zip ds).foldl gD (ps.zip us)=ps.zip (us++ds.drop (us.length+ds.length-ps.length)):=by
 have nd2:(ps.take us.length++ps.drop us.length).Nodup:=by rw[take_append_drop];exact nd
 have:=qV (A:=ps.take us.length) (B:=ps.drop us.length) (us:=us) (D1:=ds.take (us.length+ds.length-ps.length)) (D2:=ds.drop (us.length+ds.length-ps.length)) nd2 (by rw[cr];omega) (by rw[ii,ii];omega) (by rw[cr,cr];omega);rw[take_append_drop,take_append_drop,cr,cr]at this;rw[show min us.length ps.length-min (us.length+ds.length-ps.length) ds.length=ps.length-ds.length by omega]at this;exact this
def ig:∀ {L:List (Str×Value)}{S:List (Str×Value)},(forIn L S λx r=>(match x with|(name,d)=>if(r.lookup name).isNone=true then pure (ForInStep.yield (r++[(name,d)])) else pure (ForInStep.yield r):Sem (ForInStep (List (Str×Value)))))=pure (L.foldl gD S)
 | [],S=>by simp
 |(a,b)::L,S=>by
  rw[forIn_cons,foldl_cons,<-ig];unfold gD
  by_cases e:(S.lookup a).isNone=true
  .simp only[e,if_true,pure_bind]
  .simp only[e,if_false,pure_bind,Bool.false_eq_true]
def l7 {T:Addr}{items:Array Value}(nd:ps.Nodup)(h1:fd.params.posonlyargs=[])(h2:fd.params.args.map (·.arg)=ps)(h3:fd.params.kwonlyargs=[])(h4:fd.params.vararg=none)(h5:fd.params.kwarg=none)(h6:fd.defaults=.ref T)(us:List Value)(l1:us.length<=ps.length)(l2:items.toList.length<=ps.length)(l3:ps.length<=us.length+items.toList.length):
  ∃ k:Option (Array Value)->Sem (List (Str×Value)),bindArgs fd ⟨us,[]⟩=seqItems? fd.defaults >>= k/\k (some items)=pure (ps.zip (us++items.toList.drop (us.length+items.toList.length-ps.length))):=by
 obtain⟨name,qual,⟨po,as,va,ko,kd,ka,df⟩,body,scope,glo,bb,dV,kV,doc,pm,an,cdv,ct,bu⟩:=fd;dsimp only at h1 h2 h3 h4 h5 h6;subst h1 h2 h3 h4 h5 h6;generalize hps:as.map (·.arg)=ps at nd l1 l2 l3⊢;have e2:∀ f:Str->Bool,(∀ n ∈ ps.take (ps.length-items.toList.length),f n=false)->(ps.take (ps.length-items.toList.length)).filter f=[]:=λf h=>List.filter_eq_nil_iff.mpr λa ha=>by rw[h a ha];decide
 have e3:¬ (us.length>ps.length):=by omega
 have ez:ps.zip us=(ps.take us.length).zip us:=by
  have:=hU (A:=ps.take us.length) (B:=ps.drop us.length) (us:=us) (by rw[cr];omega);rw[take_append_drop]at this;exact this
 have e4:=e2 (λn=>((ps.zip us).lookup n).isNone) λn hn=>by
  rw[ez];refine pf (by rw[cr];omega) ?_;have:ps.take (ps.length-items.toList.length)=(ps.take us.length).take (ps.length-items.toList.length):=by rw[List.take_take,Nat.min_eq_left nofun]
  rw[this]at hn;exact List.mem_of_mem_take hn
 have e6:=o7 (us:=us) (ds:=items.toList) nd l1 l2 l3;have e5:=jx (us:=us++items.toList.drop (us.length+items.toList.length-ps.length)) nd (by rw[ce,ii];omega) λ_ _=>rfl
 have e7:items.toList.length-ps.length=0:=by omega
 unfold bindArgs;dsimp only[List.map_nil,nil_append,append_nil];rw[hps];refine⟨_,rfl,?_⟩;simp only[Option.getD_some,List.map_nil,nil_append,e7,drop_zero,e4,e3,List.isEmpty_nil,Bool.not_true,decide_false,Bool.false_and,Bool.false_eq_true,if_false,forIn_nil,append_nil];rw[ig,e6,pure_bind,pure_bind];simp only[e5,List.isEmpty_nil,Bool.not_true,Bool.false_eq_true,if_false]
abbrev sG (x:Option (Option Value))(a:Addr):Bool:=match x with
 |some (some (.ref b))=>b ==a
 |_=>false
variable {x:Option (Option Value)}
def cy {a:Addr}(h:sG x a=true):x=some (some (.ref a)):=by
 unfold sG at h
 split at h
 .rw[beq_iff_eq.mp h]
 .cases h
abbrev lY (x:Option (Option Value))(a:String):Bool:=match x with
 |some (some (.builtin b))=>b ==a
 |_=>false
variable {a:String}
def aQ (h:lY x a=true):x=some (some (.builtin a)):=by
 unfold lY at h
 split at h
 .rw[beq_iff_eq.mp h]
 .cases h
abbrev yw (x:Option Value)(a:String):Bool:=match x with
 |some (.type b)=>b ==a
 |_=>false
def uc {x:Option Value}(h:yw x a=true):x=some (.type a):=by
 unfold yw at h
 split at h
 .rw[beq_iff_eq.mp h]
 .cases h
abbrev o8 (x:Option (Option Value)):Bool:=match x with
 |some none=>true
 |_=>false
def gS (h:o8 x=true):x=some none:=by
 unfold o8 at h
 split at h
 .rfl
 .cases h
abbrev rS (x:Option Bool)(b:Bool):Bool:=match x with
 |some c=>c ==b
 |none=>false
def bI {x:Option Bool}{b:Bool}(h:rS x b=true):x=some b:=by
 unfold rS at h
 split at h
 .rw[beq_iff_eq.mp h]
 .cases h
abbrev yv (v:V)(x:Option (Option Value)):Bool:=match v,x with
 | .int i,some (some (.int j _))=>i ==j
 | .str s,some (some (.str s' _))=>s ==s'
 | .ref a,y=>sG y a
 |_,_=>false
def uo {v:V}(h:yv v x=true):∃ u,x=some (some u)/\RelV v u:=by
 unfold yv at h
 split at h
 .rw[<-beq_iff_eq.mp h];exact⟨_,rfl,_,rfl⟩
 .rw[<-beq_iff_eq.mp h];exact⟨_,rfl,_,rfl⟩
 .rw[cy h];exact⟨_,rfl,rfl⟩
 .cases h
section
variable (K:Frag) (C:Addr)
abbrev pP:Bool:=plainGet K C Str.empty&&(hasDictIn K C&&(plainOver K C&&lY (findIn K (.ref C) "__setattr__") "object.__setattr__"))
def kA {K:Frag}{C:Addr}(h:pP K C=true):rH K C:=by
 unfold pP at h;simp only[lf]at h;exact⟨h.1,h.2.1,h.2.2.1,aQ h.2.2.2⟩
abbrev rh:Bool:=lY (findIn K (.ref C) "__class__") "object.__class__"&&(lY (specialIn K (.builtin "object.__class__") "__get__") "getset_descriptor.__get__"&&rS (takesIn K (.builtin "object.__class__")) true)
abbrev iZ:Bool:=yw (typeIn K (.ref C)) "type"&&((clsIn K C).any (λcd=>bc cd.mro)&&(hasDictIn K C&&(lY (findIn K (.ref C) "__getattribute__") "BaseException.__getattribute__"&&(o8 (findIn K (.ref C) "__getattr__")&&lY (findIn K (.ref C) "__setattr__") "object.__setattr__"))))
def eo {K:Frag}{C:Addr}(h:iZ K C=true):aU K C:=by
 unfold iZ at h;simp only[lf]at h;exact⟨uc h.1,h.2.1,h.2.2.1,aQ h.2.2.2.1,gS h.2.2.2.2.1,aQ h.2.2.2.2.2⟩
end
abbrev all2 {α:Type}(l:List α)(p:α->Bool):Bool:=match l with
 | []=>true
 |a::r=>p a&&all2 r p
def ah {α:Type}{p:α->Bool}:∀ {l:List α},all2 l p=true->∀ a ∈ l,p a=true
 | [],_,_,h=>by cases h
 |a::r,h,b,hb=>by
  unfold all2 at h;rw[lf]at h;rcases le.mp hb with rfl|hb
  .exact h.1
  .exact ah h.2 b hb
abbrev vq (K:Frag)(fs cs:List Addr)(gs:List (Str×V)):Rt:=⟨K,λi=>fs.getD i 0,λi=>cs.getD i 0,λx=>gs.lookup x⟩
section
variable (K:Frag) (T:Tab) (fs cs:List Addr) (gs:List (Str×V))
abbrev qz:Bool:=
 (all2 T.gfn (λp=>sG (nsIn K mainGlobals p.1) (fs.getD p.2 0)&&(keepIn K (.ref (fs.getD p.2 0))&&(T.fns[p.2]?).isSome))&&
 (all2 T.gcl (λp=>sG (nsIn K mainGlobals p.1) (cs.getD p.2 0))&&
 (all2 T.gbl (λx=>o8 (nsIn K mainGlobals x)&& !(x ==("__name__":Str)))&&
 (all2 T.gbi (λx=>match nsIn K mainGlobals x with
  |some (some (.ref B))=>lY (specialIn K (.ref B) "__getattribute__") "type.__getattribute__"&&(readsIn K B (.type "type")&&(match findCls K (.ref B) (.type "type") "__init__" with|some (.val (.builtin n))=>n =="ValueError.__init__"|_=>false))
  |_=>false)&&
 (all2 gs (λp=>yv p.2 (nsIn K mainGlobals p.1))&&
 (all2 T.na (λp=>o8 (findIn K (.ref (cs.getD p.1 0)) p.2))&&
 (all2 T.me (λp=>pP K (cs.getD p.1.1 0)&&(sG (findIn K (.ref (cs.getD p.1.1 0)) p.1.2) (fs.getD p.2 0)&&(isFn K (.ref (fs.getD p.2 0))&&(keepIn K (.ref (fs.getD p.2 0))&&(T.fns[p.2]?).isSome)))))))))))&&
 (all2 T.ini0 (λc=>aL K (cs.getD c 0)&&(lY (findIn K (.ref (cs.getD c 0)) "__init__") "ValueError.__init__"&&(keepIn K (.ref (cs.getD c 0))&&iZ K (cs.getD c 0))))&&
 (all2 T.inip (λc=>makesIn K (cs.getD c 0)&&(lY (findIn K (.ref (cs.getD c 0)) "__init__") "object.__init__"&&keepIn K (.ref (cs.getD c 0))))&&
 (all2 T.ini (λp=>(T.fns[p.2]?).isSome&&((if T.xc.contains p.1=true then aL K (cs.getD p.1 0) else makesIn K (cs.getD p.1 0))&&(sG (findIn K (.ref (cs.getD p.1 0)) "__init__") (fs.getD p.2 0)&&(isFn K (.ref (fs.getD p.2 0))&&keepIn K (.ref (cs.getD p.1 0))))))&&
 (all2 T.oc (λc=>pP K (cs.getD c 0)&&(rh K (cs.getD c 0)&&rS (mroIn K (cs.getD c 0) (.type "object")) true))&&
 (all2 T.xc (λc=>iZ K (cs.getD c 0)&&rh K (cs.getD c 0))&&
 (all2 T.sub (λp=>rS (kitOne K (.ref (cs.getD p.1.1 0)) (.ref (cs.getD p.1.2 0))) p.2&&(!T.xc.contains p.1.1||(rS (mroIn K (cs.getD p.1.1 0) (.ref (cs.getD p.1.2 0))) p.2&&iZ K (cs.getD p.1.2 0))))&&
 (all2 T.subT (λp=>rS (kitOne K (.ref (cs.getD p.1.1 0)) (.type p.1.2)) p.2)&&
 (all2 T.subB (λp=>rS (kitOne K (.type p.1.1) (.type p.1.2)) p.2)&&
 (all2 T.subO (λp=>rS (kitOne K (.type p.1.1) (.ref (cs.getD p.1.2 0))) p.2)&&
  all2 T.cin (λp=>lY (specialIn K (.ref (cs.getD p.1 0)) "__getattribute__") "type.__getattribute__"&&(readsIn K (cs.getD p.1 0) (.type "type")&&((match findCls K (.ref (cs.getD p.1 0)) (.type "type") "__init__" with|some (.val (.ref f))=>f ==fs.getD p.2 0|_=>false)&&(keepIn K (.ref (fs.getD p.2 0))&&(T.fns[p.2]?).isSome)))))))))))))
end
def dM {α:Type}{x:Option α}(h:x.isSome=true):∃ d,x=some d:=Option.isSome_iff_exists.mp h
variable {K:Frag}{T:Tab}{fs:List Addr}{gs:List (Str×V)}{mg:AF}
def pK {cs:List Addr}{h:Heap}(X:K.In h)(G:h.Ns mainGlobals mg)(z:qz K T fs cs gs=true):p0 K mg T (vq K fs cs gs):=by
 unfold qz at z;simp only[lf]at z;obtain⟨⟨z1,z2,z3,z4,z5,z6,z7⟩,z8,z9,z10,z11,z12,z13,z14,z15,z16,z17⟩:=z;exact {
  gfn:=fk λp hp=>by
   have:=ah z1 p hp;simp only[lf]at this;exact⟨mg_of X G (cy this.1),this.2.1,dM this.2.2⟩
  gcl:=fk λp hp=>mg_of X G (cy (ah z2 p hp))
  gbl:=de λx hx=>by
   have:=ah z3 x hx;simp only[lf]at this;exact⟨mg_none_of X G (gS this.1),by simpa using this.2⟩
  gbi:=de λx hx=>by
   have:=ah z4 x hx
   split at this
   .rename_i B e;simp only[lf]at this;refine⟨B,mg_of X G e,aQ this.1,this.2.1,?_⟩;have t:=this.2.2
    split at t
    .rename_i n e2;rw[e2,beq_iff_eq.mp t]
    .cases t
   .cases this
  gl:=fk λp hp=>by
   obtain⟨u,e,r⟩:=uo (ah z5 p hp);exact⟨u,mg_of X G e,r⟩
  na:=qG λp hp=>gS (ah z6 p hp)
  me:=cO λp hp=>by
   have:=ah z7 p hp;simp only[lf]at this;exact⟨kA this.1,⟨cy this.2.1,this.2.2.1,this.2.2.2.1⟩,dM this.2.2.2.2⟩
  ini0:=de λc hc=>by
   have:=ah z8 c hc;simp only[lf]at this;exact⟨this.1,aQ this.2.1,this.2.2.1,eo this.2.2.2⟩
  inip:=de λc hc=>by
   have:=ah z9 c hc;simp only[lf]at this;exact⟨this.1,aQ this.2.1,this.2.2⟩
  ini:=fk λp hp=>by
   have:=ah z10 p hp;simp only[lf]at this;refine⟨dM this.1,?_⟩;have t:=this.2
   by_cases e:T.xc.contains p.1=true
   .rw[if_pos e]at t⊢;exact⟨t.1,cy t.2.1,t.2.2.1,t.2.2.2⟩
   .rw[if_neg e]at t⊢;exact⟨t.1,cy t.2.1,t.2.2.1,t.2.2.2⟩
  oc:=de λc hc=>by
   have:=ah z11 c hc;simp only[rh,lf]at this;exact⟨kA this.1,aQ this.2.1.1,aQ this.2.1.2.1,bI this.2.1.2.2,bI this.2.2⟩
  xc:=de λc hc=>by
   have:=ah z12 c hc;simp only[rh,lf]at this;exact⟨eo this.1,aQ this.2.1,aQ this.2.2.1,bI this.2.2.2⟩
  sub:=cO λp hp=>by
   have:=ah z13 p hp;simp only[lf]at this;refine⟨bI this.1,λe=>?_⟩;have t:=this.2;rw[e,Bool.not_true,Bool.false_or,lf]at t;exact⟨bI t.1,eo t.2⟩
  subT:=cO λp hp=>bI (ah z14 p hp)
  subB:=cO λp hp=>bI (ah z15 p hp)
  subO:=cO λp hp=>bI (ah z16 p hp)
  cin:=fk λp hp=>by
   have:=ah z17 p hp;simp only[lf]at this;refine⟨⟨aQ this.1,this.2.1,?_,this.2.2.2.1⟩,dM this.2.2.2.2⟩;have t:=this.2.2.1
   split at t
   .rename_i f e2;rw[beq_iff_eq.mp t]at e2;exact e2
   .cases t }
abbrev yg:List Str->Bool
 | []=>true
 |a::r=>!r.contains a&&yg r
def mr:∀ {l:List Str},yg l=true->l.Nodup
 | [],_=>List.nodup_nil
 |a::r,h=>by
  unfold yg at h;rw[lf]at h;exact nodup_cons.mpr ⟨by simpa using h.1,mr h.2⟩
abbrev yT (N P:List Str)(sc:Scope):Bool:=decide (sc.kind=.function)&&(!sc.isCoroutine&&(!sc.isGenerator&&(yg N&&(N.take P.length ==P&&(all2 P (λx=>match sc.names.lookup x with|some .local=>true|some .cell=>true|_=>false)&&all2 sc.names (λy=>match y.2 with| .free=>false|_=>true))))))
def jO {N P:List Str}{sc:Scope}(h:yT N P sc=true):dR N P sc:=by
 unfold yT at h;simp only[lf,decide_eq_true_eq]at h;refine⟨h.1,by simpa using h.2.1,by simpa using h.2.2.1,mr h.2.2.2.1,beq_iff_eq.mp h.2.2.2.2.1,λx hx=>?_,λy hy e=>?_⟩
 .have:=ah h.2.2.2.2.2.1 x hx
  split at this
  .rename_i e;exact .inl e
  .rename_i e;exact .inr e
  .cases this
 .have:=ah h.2.2.2.2.2.2 y hy;rw[e]at this;cases this
abbrev yB:V->Value->Bool
 | .non,.none=>true
 | .bl b,.bool c=>b ==c
 | .int i,.int j _=>i ==j
 | .str s,.str s' _=>s ==s'
 |_,_=>false
def tT {v:V}{u:Value}(h:yB v u=true):RelV v u:=by
 unfold yB at h
 split at h
 .rfl
 .rw[beq_iff_eq.mp h];rfl
 .rw[beq_iff_eq.mp h];exact⟨_,rfl⟩
 .rw[beq_iff_eq.mp h];exact⟨_,rfl⟩
 .cases h
abbrev mM:List V->List Value->Bool
 | [],[]=>true
 |v::vs,u::us=>yB v u&&mM vs us
 |_,_=>false
def gZ:∀ {vs:List V}{us:List Value},mM vs us=true->Vals vs us
 | [],[],_=>.nil
 |v::vs,u::us,h=>by
  unfold mM at h;rw[lf]at h;exact .cons (tT h.1) (gZ h.2)
 | [],_::_,h=>by cases h
 |_::_,[],h=>by cases h
abbrev yV (K:Frag)(fd:FuncData)(d:aO):Bool:=match fd.defaults with
 | .none=>d.dfl.isEmpty
 | .ref T=>!d.dfl.isEmpty&&(match K.lookup T with
  |some o=>(match o.data with| .seq items _=>mM d.dfl items.toList&&decide (items.toList.length<=d.ps.length)|_=>false)
  |none=>false)
 |_=>false
abbrev sh (K:Frag)(T:Tab)(f:Addr)(d:aO):Bool:=match K.lookup f with
 |some ⟨_,_,.func fd,_⟩=>(match fd.body with
  | .stmts body=>decide (fd.globals=mainGlobals)&&(fd.closure.isEmpty&&(decide (fd.builtins=builtinsNs)&&(codeIn K fd.code fd.qualname&&(yT d.N d.ps fd.scope&&(mB ⟨T,fd.scope,d.N⟩ d.body body&&
   (fd.params.posonlyargs.isEmpty&&(fd.params.args.map (·.arg) ==d.ps&&(fd.params.kwonlyargs.isEmpty&&(fd.params.vararg.isNone&&(fd.params.kwarg.isNone&&yV K fd d))))))))))
  |_=>false)
 |_=>false
variable {d:aO}
def t8 {f:Addr}(h:sh K T f d=true):ly K T f d:=by
 unfold sh at h
 split at h
 .rename_i oc od fd sl e;obtain⟨name,qual,params,body,scope,glo,bb,dV,kV,doc,pm,an,cdv,ct,bu⟩:=fd;dsimp only at h
  split at h
  .rename_i body;simp only[lf,decide_eq_true_eq,isEmpty_iff,Option.isNone_iff_eq_none]at h;obtain⟨h1,h2,h3,h4,h5,h6,h7,h8,h9,h10,h11,h12⟩:=h;subst h1 h2 h3;have S:=jO h5;have nd:d.ps.Nodup:=by
    rw[<-S.pre];exact S.nd.sublist (take_sublist _ _)
   refine⟨⟨name,qual,params,body,scope,dV,kV,doc,pm,cdv,ct,oc,od,an,sl,e,h4,S,h6,?_⟩⟩;unfold yV at h12;dsimp only at h12
   split at h12
   .rw[isEmpty_iff.mp h12];exact tU (.all λus hl=>iI nd h7 (beq_iff_eq.mp h8) h9 h10 h11 rfl us hl)
   .rename_i T0;rw[lf]at h12;have h12:=h12.2
    split at h12
    .rename_i o ho
     split at h12
     .rename_i items c hs;rw[lf,decide_eq_true_eq]at h12;intro j;refine⟨items.toList.drop j,?_,fP j (gZ h12.1)⟩;refine qp (n:=d.ps.length-(items.toList.drop j).length) rfl ho hs (by rw[ii];omega) λus hl=>?_
      rw[ii]at hl;obtain⟨k,k1,k2⟩:=l7 (fd:=fnOf name qual params body scope (.ref T0) kV doc pm an cdv ct) (items:=items) nd h7 (beq_iff_eq.mp h8) h9 h10 h11 rfl us nofun h12.2 nofun;refine⟨k,k1,?_⟩;rw[k2]
      by_cases e:j<=items.toList.length
      .rw[show us.length+items.toList.length-d.ps.length=j by omega]
      .rw[show us.length+items.toList.length-d.ps.length=items.toList.length by omega,List.drop_length,List.drop_eq_nil_of_le (by omega:items.toList.length<=j)]
     .cases h12
    .cases h12
   .cases h12
  .cases h
 .cases h
abbrev fw (K:Frag)(T:Tab)(fs:List Addr):Nat->List aO->Bool
 |_,[]=>true
 |n,d::r=>sh K T (fs.getD n 0) d&&fw K T fs (n+1) r
def kP {K:Frag}{T:Tab}{fs:List Addr}:∀ {l:List aO}{n:Nat},fw K T fs n l=true->kC (λf d=>ly K T (fs.getD f 0) d) n l
 | [],_,_=>True.intro
 |d::r,n,h=>by
  unfold fw at h;rw[lf]at h;exact⟨t8 h.1,kP h.2⟩
def qT (h:fw K T fs 0 T.fns=true):∀ f d,T.fns[f]? =some d->ly K T (fs.getD f 0) d:=jJ (P:=λf d=>ly K T (fs.getD f 0) d) (kP h)
def kx {K:Frag}{T:Tab}{fs:List Addr}:∀ {l:List aO}{n f:Nat}{d:aO},fw K T fs n l=true->l[f]? =some d->sh K T (fs.getD (n+f) 0) d=true
 | [],_,_,_,_,e=>by simp at e
 |a::r,n,0,d,h,e=>by
  unfold fw at h;rw[lf]at h;have:a=d:=by simpa using e
  subst this;exact h.1
 |a::r,n,f+1,d,h,e=>by
  unfold fw at h;rw[lf]at h;have:=kx h.2 (f:=f) (d:=d) (by simpa using e)
  rwa [Nat.add_assoc,Nat.add_comm 1 f]at this
def qN {fl:Nat}(z:fw K T fs 0 T.fns=true)(hd:T.fns[fl]? =some d)(hp:d.ps=[("_law_script":Str)]) (hf:d.dfl=[]):
  ∃ oc od fd sl,K.lookup (fs.getD fl 0)=some ⟨oc,od,.func fd,sl⟩/\∀ (s:Shared) (v:Value),BindsTo s fd ⟨[v],[]⟩ [("_law_script",v)]:=by
 have h:=kx z hd;rw[Nat.zero_add]at h;unfold sh at h
 split at h
 .rename_i oc od fd sl e;refine⟨oc,od,fd,sl,e,λs v=>?_⟩
  split at h
  .rename_i body hb;simp only[lf,decide_eq_true_eq,isEmpty_iff,Option.isNone_iff_eq_none]at h;obtain⟨h1,h2,h3,h4,h5,h6,h7,h8,h9,h10,h11,h12⟩:=h;have nd:d.ps.Nodup:=by
    rw[<-(jO h5).pre];exact(jO h5).nd.sublist (take_sublist _ _)
   unfold yV at h12;rw[hf]at h12;have e6:fd.defaults=.none:=by
    split at h12
    .rename_i e;exact e
    .rw[lf]at h12;cases h12.1
    .cases h12
   have:=iI nd h7 (beq_iff_eq.mp h8) h9 h10 h11 e6 [v] (by rw[hp];rfl);rw[hp]at this;exact .of_eq this
  .cases h
 .cases h
def qL {P:Program}{w:World}{h:Heap}{fa:Addr}{cs:List Addr}{fl k:Nat}(X:K.In h)(G:h.Ns mainGlobals mg)(hfa:mg "law"=some (.ref fa))
  (z1:qz K T fs cs gs=true) (z2:fw K T fs 0 T.fns=true) (z3:sG (nsIn K mainGlobals "law") (fs.getD fl 0)=true) (hd:T.fns[fl]? =some d) (hp:d.ps=[("_law_script":Str)]) (hf:d.dfl=[])
  (ht:∀ vs H Q E,dA K 63 vs H Q E->ae T (vq K fs cs gs) k fl vs H Q E):
  ∃ fd:FuncData,(∀ (s:Shared) (v:Value),BindsTo s fd ⟨[v],[]⟩ [("_law_script",v)])/\∀ base:Heap,K.In base->base.Ns mainGlobals mg->ba P w K mg base (nK P w) (2*k) fa fd ["_law_script"] (dA K 63):=by
 have e0:fs.getD fl 0=fa:=by
  have e:=hfa.symm.trans (mg_of X G (cy z3))
  injection e with e
  injection e with e
  exact e.symm
 have fn:=qT z2;have tk:=pK X G z1;have N:=fn fl d hd;have hN:=qN z2 hd;obtain⟨oc,od,fd,sl,e,hb⟩:=hN hp hf;refine⟨fd,hb,λbase hb hg=>?_⟩;have F:=tV (P:=P) (w:=w) (base:=base) (R:=vq K fs cs gs) tk rfl fn k fl d hd (fd:=fd) (lk:=e) (iT▸ht);rw[hp]at F;rw[<-e0];exact F
abbrev zp (K:Frag)(a:Addr)(vs:List V):Bool:=match K.lookup a with
 |some ⟨.type t,_,.seq items _,_⟩=>t =="tuple"&&(decide (items.size<=1000)&&mM vs items.toList)
 |_=>false
def uM {a:Addr}{vs:List V}(h:zp K a vs=true)(H:Hp):a9 K H a vs:=by
 unfold zp at h
 split at h
 .rename_i t od items n sl e;simp only[lf,decide_eq_true_eq]at h;refine .inr ⟨_,items,n,e,?_,rfl,?_,gZ h.2.2⟩
  .show Value.type t=_;rw[beq_iff_eq.mp h.1]
  .exact Nat.le_of_lt (bT h.2.1)
 .cases h
end L3
namespace L3
open PySem L2
noncomputable abbrev cz.c (e:Ex)(r:cz):cz:=.cons e r
noncomputable abbrev cz.n:cz:=.nil
noncomputable abbrev fv.c (e:Sx)(r:fv):fv:=.cons e r
noncomputable abbrev fv.n:fv:=.nil
noncomputable abbrev pG.c (a b:Nat)(e:fv)(r:pG):pG:=.cons a b e r
noncomputable abbrev pG.n:pG:=.nil
noncomputable abbrev Ex.i (x:Int):Ex:=.int x
noncomputable abbrev Ex.s (x:Str):Ex:=.str x
noncomputable abbrev Ex.k (x:Nat)(e:cz):Ex:=.call x e
noncomputable abbrev Ex.m (a:Ex)(x:Str)(e:cz):Ex:=.meth a x e
noncomputable abbrev Ex.f (c:Tx)(a b:Ex):Ex:=.ife c a b
noncomputable abbrev Ex.q (o:CmpOp)(a b:Ex):Ex:=.cmp o a b
noncomputable abbrev Tx.q (o:CmpOp)(a b:Ex):Tx:=.cmp o a b
noncomputable abbrev Sx.a (x:Nat)(e:Ex):Sx:=.asg x e
noncomputable abbrev Sx.r (e:Ex):Sx:=.ret e
noncomputable abbrev Sx.f (c:Tx)(a b:fv):Sx:=.ife c a b
noncomputable abbrev Sx.e (e:Ex):Sx:=.expr e
end L3
set_option Elab.async false
set_option maxHeartbeats 8000000
open PySem PySem.Spec L2 L3
namespace My
open PySem L2 L3
set_option hygiene false
local macro_rules|`(#[])=>`(.n)|`(#[$x:term])=>`(.c $x .n)|`(#[$x:term,$xs:term,*])=>`(.c $x #[$xs,*])
set_option hygiene true
abbrev cZ:aO:=⟨["self","at"],["self","at"],[],#[.e (.bini #[.v 0,.s "a word that can't stand where it stands"]),.fld (.v 0) "at" (.v 1)]⟩
abbrev eX:aO:=⟨["thing"],["thing"],[],#[.r (.and (.isi (.v 0) (.ty "int")) (.not (.isi (.v 0) (.ty "bool"))))]⟩
abbrev cK:aO:=⟨["thing"],["thing"],[],#[.r (.and (.k 1 #[.v 0]) (.cmp2 .LtE .LtE (.i 0) (.v 0) (.gl "BOUND")))]⟩
abbrev du:aO:=⟨["thing"],["thing"],[],#[.r (.and (.k 1 #[.v 0]) (.cmp2 .LtE .LtE (.neg (.gl "BOUND")) (.v 0) (.gl "BOUND")))]⟩
abbrev oj:aO:=⟨["box","thing"],["box","thing"],[],#[.f (.or (.q .Eq (.v 0) (.s "here")) (.q .Eq (.v 0) (.s "there"))) #[.r (.k 3 #[.v 1])] .n,.f (.q .Eq (.v 0) (.s "way")) #[.r (.and (.k 1 #[.v 1]) (.or (.q .Eq (.v 1) (.i 1)) (.q .Eq (.v 1) (.neg (.i 1)))))] .n,.f (.q .Eq (.v 0) (.s "met")) #[.r (.and (.k 1 #[.v 1]) (.or (.q .Eq (.v 1) (.i 0)) (.q .Eq (.v 1) (.i 1))))] .n,.r (.k 2 #[.v 1])]⟩
abbrev bj:aO:=⟨["word"],["word","figures"],[],#[.a 1 (.f (.val (.sm .starts (.v 0) (.s "-"))) (.sl (.v 0) (.yes (.i 1)) .no) (.v 0)),.f (.not (.cmp2 .LtE .LtE (.i 1) (.bf .len #[.v 1]) (.gl "MOST_FIGURES"))) #[.r (.bl false)] .n,.f (.not (.val (.bf .all #[.lc (.q .In (.v 0) (.gl "FIGURES")) [] (.seq (.v 1))]))) #[.r (.bl false)] .n,.r (.or (.q .Eq (.v 0) (.s "0")) (.not (.sm .starts (.v 1) (.s "0"))))]⟩
abbrev dz:aO:=⟨["word"],["word"],[],#[.r (.f (.and (.q .IsNot (.v 0) .non) (.val (.k 5 #[.v 0]))) (.bf .int #[.v 0]) .non)]⟩
abbrev cn:aO:=⟨["word"],["word"],[],#[.f (.or (.q .Is (.v 0) .non) (.not (.cmp2 .LtE .LtE (.i 1) (.bf .len #[.v 0]) (.gl "MOST_CELLS")))) #[.r (.bl false)] .n,.r (.bf .all #[.lc (.q .In (.v 0) (.gl "LEAVE_OF")) [] (.seq (.v 0))])]⟩
abbrev aV:aO:=⟨["self","text"],["self","text"],[],#[.f (.not (.val (.isi (.v 1) (.ty "str")))) #[.rais (.make 1 #[.neg (.i 1)])] .n,.fld (.v 0) "queue" (.sm .split (.v 1) (.s " ")),.fld (.v 0) "at" (.i 0)]⟩
abbrev bL:aO:=⟨["self"],["self"],[],#[.r (.f (.q .Lt (.fld (.v 0) "at") (.bf .len #[.fld (.v 0) "queue"])) (.ix (.fld (.v 0) "queue") (.fld (.v 0) "at")) .non)]⟩
abbrev cg:aO:=⟨["self","stands"],["self","stands","word"],[],#[.f (.not (.val (.v 1))) #[.rais (.make 1 #[.fld (.v 0) "at"])] .n,.a 2 (.ix (.fld (.v 0) "queue") (.fld (.v 0) "at")),.augF (.v 0) "at" .Add (.i 1),.r (.v 2)]⟩
abbrev aN:aO:=⟨["self","low","high"],["self","low","high","number"],[],#[.a 3 (.k 6 #[.m (.v 0) "ahead" .n]),.e (.m (.v 0) "take" #[.and (.q .IsNot (.v 3) .non) (.cmp2 .LtE .LtE (.v 1) (.v 3) (.v 2))]),.r (.v 3)]⟩
abbrev aE:aO:=⟨["self","box"],["self","box","number"],[],#[.a 2 (.k 6 #[.m (.v 0) "ahead" .n]),.e (.m (.v 0) "take" #[.k 4 #[.v 1,.v 2]]),.r (.v 2)]⟩
abbrev aK:aO:=⟨["self"],["self"],[],#[.r (.lc (.ix (.gl "LEAVE_OF") (.v 0)) [] (.seq (.m (.v 0) "take" #[.k 7 #[.m (.v 0) "ahead" .n]])))]⟩
abbrev bS:aO:=⟨["self"],["self"],[],#[.r (.q .Eq (.fld (.v 0) "at") (.bf .len #[.fld (.v 0) "queue"]))]⟩
abbrev bw:aO:=⟨["self"],["self"],[],#[.f (.not (.val (.m (.v 0) "ended" .n))) #[.rais (.make 1 #[.fld (.v 0) "at"])] .n]⟩
abbrev cS:aO:=⟨["reader"],["reader","at","boxes","leaves","cells"],[],#[.a 1 (.m (.v 0) "take_number" #[.i 0,.gl "MOST_ROWS"]),.a 2 (.bf .tuple #[.lc (.m (.v 1) "take_fitting" #[.v 0]) [0] (.seq (.gl "NAMES"))]),.a 3 (.m (.v 0) "take_leaves" .n),.a 4 (.lc (.m (.v 1) "take_number" #[.i 0,.gl "BOUND"]) [0] (.seq (.v 3))),.r (.tup #[.tup #[.v 1,.v 2,.v 4],.v 3])]⟩
abbrev cL:aO:=⟨["text"],["text","reader","told"],[],#[.a 1 (.make 2 #[.v 0]),.a 2 (.k 16 #[.v 1]),.e (.m (.v 1) "finish" .n),.r (.v 2)]⟩
abbrev cF:aO:=⟨["state","leaves"],["state","leaves","letters","told"],[],#[.a 2 (.sm .join (.s "") (.lc (.ix (.v 0) (.i 0)) [] (.seq (.v 1)))),.a 3 (.bin .Add (.bin .Add (.lst #[.bf .str #[.ix (.v 0) (.i 0)]]) (.lc (.bf .str #[.v 0]) [] (.seq (.ix (.v 0) (.i 1))))) (.lst #[.v 2])),.e (.lm .extend (.v 3) #[.lc (.bf .str #[.v 0]) [] (.seq (.ix (.v 0) (.i 2)))]),.r (.sm .join (.s " ") (.v 3))]⟩
abbrev dD:aO:=⟨["_law_script"],["_law_script","_law_cells_here","_law_fold","_law_cell"],[],#[.a 1 (.bf .list #[.sl (.v 0) .no (.yes (.i 63))]),.a 2 (.bf .len #[.v 1]),.for (.nm 3) (.seq (.v 1)) #[.a 2 (.bin .Mod (.bin .Add (.bin .Add (.bin .Mult (.v 2) (.i 48271)) (.bin .Mod (.v 3) (.i 2147483647))) (.i 1)) (.i 2147483629))],.r (.lst #[.v 1,.v 2,.i 0,.i 0,.i 0])]⟩
abbrev dy:aO:=⟨["_law_hand_here","_law_many"],["_law_hand_here","_law_many","_law_rest","_law_cell","_law_one","_law_two"],[],#[.augS (.v 0) (.i 4) .Add (.i 1),.a 2 (.ix (.v 0) (.i 3)),.a 3 (.ix (.v 0) (.i 1)),.f (.q .Gt (.v 2) (.i 0)) #[.sub (.v 0) (.i 3) (.bin .FloorDiv (.v 2) (.v 1)),.r (.bin .Mod (.v 2) (.v 1))] .n,.f (.q .Lt (.ix (.v 0) (.i 2)) (.bf .len #[.ix (.v 0) (.i 0)])) #[.a 3 (.ix (.ix (.v 0) (.i 0)) (.ix (.v 0) (.i 2))),.augS (.v 0) (.i 2) .Add (.i 1),.f (.q .GtE (.v 3) (.bin .Pow (.i 10) (.i 18))) #[.sub (.v 0) (.i 3) (.bin .FloorDiv (.v 3) (.v 1)),.r (.bin .Mod (.v 3) (.v 1))] .n] .n,.a 4 (.bin .Mod (.bin .Pow (.bin .Add (.bin .Mod (.v 3) (.i 998244353)) (.bin .Mult (.i 7919) (.ix (.v 0) (.i 4)))) (.i 5)) (.i 2147483647)),.a 5 (.bin .Mod (.bin .Pow (.bin .Add (.bin .Add (.v 4) (.bin .Mult (.i 104729) (.ix (.v 0) (.i 4)))) (.ix (.v 0) (.i 1))) (.i 3)) (.i 2147483629)),.r (.bin .Mod (.bin .FloorDiv (.v 5) (.i 7)) (.v 1))]⟩
abbrev bC:aO:=⟨["_law_hand_here"],["_law_hand_here","_law_way"],[],#[.a 1 (.k 20 #[.v 0,.i 4]),.f (.q .Eq (.v 1) (.i 0)) #[.r (.k 20 #[.v 0,.i 3])] .n,.f (.q .Eq (.v 1) (.i 1)) #[.r (.bin .Sub (.bin .Pow (.i 10) (.i 9)) (.k 20 #[.v 0,.i 2]))] .n,.f (.q .Eq (.v 1) (.i 2)) #[.r (.k 20 #[.v 0,.i 100])] .n,.r (.bin .Mod (.bin .Add (.bin .Mult (.k 20 #[.v 0,.i 100000]) (.i 10001)) (.k 20 #[.v 0,.i 10001])) (.bin .Add (.bin .Pow (.i 10) (.i 9)) (.i 1)))]⟩
abbrev cU:aO:=⟨["_law_hand_here","_law_most"],["_law_hand_here","_law_most","_law_way","_law_many"],[],#[.a 2 (.k 20 #[.v 0,.i 3]),.a 3 (.bin .Add (.i 1) (.k 20 #[.v 0,.v 1])),.f (.q .Eq (.v 2) (.i 0)) #[.r (.lc (.k 20 #[.v 1,.i 3]) [0] (.rng1 (.v 3)))] .n,.f (.q .Eq (.v 2) (.i 1)) #[.r (.lc (.bin .Add (.bin .Mult (.i 1000) (.v 0)) (.k 20 #[.v 1,.i 1000])) [0] (.rng1 (.v 3)))] .n,.r (.lc (.k 21 #[.v 1]) [0] (.rng1 (.v 3)))]⟩
abbrev ck:aO:=⟨["_law_hand_here","_law_many"],["_law_hand_here","_law_many","_law_leaves_here","_law_k","_law_word","_law_low","_law_cell"],[],#[.a 2 (.bin .Mult (.lst #[.s "open"]) (.v 1)),.for (.nm 3) (.rng1 (.ix (.lst #[.i 0,.i 0,.i 1,.i 2,.i 4]) (.k 20 #[.v 0,.i 5]))) #[.a 4 (.ix (.lst #[.s "look",.s "shut",.s "look",.s "open"]) (.k 20 #[.v 0,.i 4])),.a 5 (.k 20 #[.v 0,.v 1]),.for (.nm 6) (.rng2 (.v 5) (.bin .Add (.v 5) (.k 20 #[.v 0,.bin .Add (.bin .Sub (.v 1) (.v 5)) (.i 1)]))) #[.sub (.v 2) (.v 6) (.v 4)]],.r (.v 2)]⟩
abbrev cM:aO:=⟨["_law_thing"],["_law_thing"],[],#[.r (.and (.isi (.v 0) (.ty "int")) (.not (.isi (.v 0) (.ty "bool"))))]⟩
abbrev bP:aO:=⟨["_law_hand_here"],["_law_hand_here","_law_numbers_here","_law_k","_law_far"],[],#[.a 1 (.lst .n),.for (.nm 2) (.rng1 (.i 2)) #[.a 3 (.ix (.lst #[.i 0,.bin .Pow (.i 10) (.i 9),.neg (.bin .Pow (.i 10) (.i 9)),.k 20 #[.v 0,.i 61],.bin .Sub (.neg (.i 1)) (.k 20 #[.v 0,.bin .Pow (.i 10) (.i 8)])]) (.k 20 #[.v 0,.i 5])),.e (.lm .append (.v 1) #[.v 3])],.e (.lm .append (.v 1) #[.ix (.lst #[.i 0,.bin .Pow (.i 10) (.i 9),.k 20 #[.v 0,.i 61]]) (.k 20 #[.v 0,.i 3])]),.e (.lm .append (.v 1) #[.bin .Sub (.i 1) (.bin .Mult (.i 2) (.k 20 #[.v 0,.i 2]))]),.e (.lm .append (.v 1) #[.k 21 #[.v 0]]),.e (.lm .append (.v 1) #[.k 20 #[.v 0,.i 2]]),.r (.v 1)]⟩
abbrev bM:aO:=⟨["_law_at","_law_numbers_here","_law_leaves_here","_law_cells_here"],["_law_at","_law_numbers_here","_law_leaves_here","_law_cells_here","_law_words"],[],#[.a 4 (.bin .Add (.lst #[.bf .str #[.v 0]]) (.lc (.bf .str #[.v 0]) [] (.seq (.v 1)))),.e (.lm .append (.v 4) #[.sm .join (.s "") (.lc (.ix (.disp ["open","look","shut"] #[.s "o",.s "l",.s "s"]) (.v 0)) [] (.seq (.v 2)))]),.r (.sm .join (.s " ") (.bin .Add (.v 4) (.lc (.bf .str #[.v 0]) [] (.seq (.v 3)))))]⟩
abbrev cD:aO:=⟨["_law_found","_law_at","_law_numbers_here","_law_leaves_here","_law_cells_here"],["_law_found","_law_at","_law_numbers_here","_law_leaves_here","_law_cells_here","_law_state"],[],#[.f (.or (.not (.val (.isi (.v 0) (.ty "tuple")))) (.or (.q .NotEq (.bf .len #[.v 0]) (.i 2)) (.or (.not (.val (.isi (.ix (.v 0) (.i 0)) (.ty "tuple")))) (.q .NotEq (.bf .len #[.ix (.v 0) (.i 0)]) (.i 3))))) #[.r (.bl false)] .n,.a 5 (.ix (.v 0) (.i 0)),.f (.or (.not (.val (.isi (.ix (.v 5) (.i 1)) (.ty "tuple")))) (.or (.not (.val (.isi (.ix (.v 5) (.i 2)) (.ty "list")))) (.not (.val (.isi (.ix (.v 0) (.i 1)) (.ty "list")))))) #[.r (.bl false)] .n,.f (.not (.val (.bf .all #[.lc (.k 24 #[.v 0]) [] (.seq (.bin .Add (.bin .Add (.lst #[.ix (.v 5) (.i 0)]) (.bf .list #[.ix (.v 5) (.i 1)])) (.ix (.v 5) (.i 2))))]))) #[.r (.bl false)] .n,.r (.q .Eq (.v 0) (.tup #[.tup #[.v 1,.bf .tuple #[.v 2],.v 4],.v 3]))]⟩
abbrev d5:aO:=⟨["_law_script"],["_law_script","_law_hand_here","_law_turn","_law_cells_here","_law_leaves_here","_law_numbers_here","_law_at","_law_text","_law_state","_law_handed","_law_k","_law_found"],[],#[.a 1 (.k 19 #[.v 0]),.for (.nm 2) (.rng1 (.i 6)) #[.a 3 (.k 22 #[.v 1,.ix (.lst #[.i 4,.i 60]) (.k 20 #[.v 1,.i 2])]),.a 4 (.k 23 #[.v 1,.bf .len #[.v 3]]),.f (.q .Eq (.k 20 #[.v 1,.i 3]) (.i 0)) #[.a 4 (.lc (.ix (.lst #[.s "open",.s "look",.s "shut"]) (.k 20 #[.v 1,.i 3])) [1] (.seq (.v 3)))] .n,.a 5 (.k 25 #[.v 1]),.a 6 (.ix (.lst #[.i 0,.i 24,.k 20 #[.v 1,.i 25]]) (.k 20 #[.v 1,.i 3])),.a 7 (.k 26 #[.v 6,.v 5,.v 4,.v 3]),.a 8 (.tup #[.v 6,.bf .tuple #[.v 5],.bf .list #[.v 3]]),.a 9 (.bf .list #[.v 4]),.for (.nm 10) (.rng1 (.i 2)) #[.f (.or (.q .NotEq (.k 18 #[.v 8,.v 9]) (.v 7)) (.or (.q .NotEq (.v 8) (.tup #[.v 6,.bf .tuple #[.v 5],.v 3])) (.q .NotEq (.v 9) (.v 4)))) #[.r (.bl false)] .n,.a 11 (.k 17 #[.v 7]),.f (.or (.not (.val (.k 27 #[.v 11,.v 6,.v 5,.v 4,.v 3]))) (.q .NotEq (.k 18 #[.ix (.v 11) (.i 0),.ix (.v 11) (.i 1)]) (.v 7))) #[.r (.bl false)] .n,.e (.lm .clear (.ix (.ix (.v 11) (.i 0)) (.i 2)) .n),.e (.lm .append (.ix (.v 11) (.i 1)) #[.s "open"])]],.r (.bl true)]⟩
abbrev tab:Tab where
  fns:=[cZ,eX,cK,du,oj,bj,dz,cn,aV,bL,cg,aN,aE,aK,bS,bw,cS,cL,cF,dD,dy,bC,cU,ck,cM,bP,bM,cD,d5]
  gfn:=[("is_whole",1),("is_content",2),("is_number",3),("fits",4),("is_written",5),("number_of",6),("are_letters",7),("state_from",16),("read_state",17),("show_state",18),("_law_hand",19),("_law_draw",20),("_law_content",21),("_law_cells",22),("_law_leaves",23),("_law_whole",24),("_law_numbers",25),("_law_written",26),("_law_right",27),("law",28)]
  gcl:=[("HaulError",0),("NoText",1),("Reader",2)]
  gbl:=["all","bool","int","isinstance","len","list","range","str","tuple"]
  gbi:=["HaulError"]
  na:=[(1,"at"),(2,"at"),(2,"queue")]
  me:=[((2,"ahead"),9),((2,"ended"),14),((2,"finish"),15),((2,"take"),10),((2,"take_fitting"),12),((2,"take_leaves"),13),((2,"take_number"),11)]
  ini:=[(1,0),(2,8)]
  ini0:=[]
  inip:=[]
  oc:=[2]
  xc:=[0,1]
  sub:=[]
  subT:=[]
  subB:=((("NoneType","bool"),false)::(("NoneType","int"),false)::(("NoneType","list"),false)::(("NoneType","str"),false)::(("NoneType","tuple"),false)::(("bool","bool"),true)::(("bool","int"),true)::(("bool","list"),false)::(("bool","str"),false)::(("bool","tuple"),false)::(("int","bool"),false)::(("int","int"),true)::(("int","list"),false)::(("int","str"),false)::(("int","tuple"),false)::(("str","bool"),false)::(("str","int"),false)::(("str","list"),false)::(("str","str"),true)::(("str","tuple"),false)::(("list","bool"),false)::(("list","int"),false)::(("list","list"),true)::(("list","str"),false)::(("list","tuple"),false)::(("tuple","bool"),false)::(("tuple","int"),false)::(("tuple","list"),false)::(("tuple","str"),false)::(("tuple","tuple"),true)::(("dict","bool"),false)::(("dict","int"),false)::(("dict","list"),false)::(("dict","str"),false)::(("dict","tuple"),false)::[])
  subO:=[]
/-- what the proofs ask of the addresses -/
structure Ro (K:W.Frag) (R:Rt):Prop where
  hK:R.K=K
  g_BOUND:R.gl "BOUND"=some (.int 1000000000)
  g_MOST_ROWS:R.gl "MOST_ROWS"=some (.int 24)
  g_MOST_CELLS:R.gl "MOST_CELLS"=some (.int 60)
  g_MOST_FIGURES:R.gl "MOST_FIGURES"=some (.int 10)
  g_FIGURES:R.gl "FIGURES"=some (.str "0123456789")
  g_LEAVE_OF:∃ a,R.gl "LEAVE_OF"=some (.ref a)/\qq K a [("o","open"),("l","look"),("s","shut")]
  g_NAMES:∃ a,R.gl "NAMES"=some (.ref a)/\∀ H,a9 K H a [.str "here",.str "there",.str "left",.str "way",.str "sign",.str "met"]
end My
set_option Elab.async false
set_option maxHeartbeats 8000000
namespace My
open PySem L2 L3
open L2.V renaming ref→sw,int→sK,str→tz,non→ul
open L2.HO renaming lst→ut,tup→v0,ins→wf
local macro_rules|`(tactic|delta $x:ident)=>`(tactic|refine wc (d:=$x) nofun rfl rfl ?_)
variable {h a:Addr}{m i:Int}{ns:List Int}{v:V}{t:String}{n j c:Nat}{x w z:Str}{ws lv:List Str}{P:V->Prop}
section
variable {K:W.Frag}{R:Rt}{k:Nat}{H:Hp}{Q:VK}{E:XK}{O Γ' Δ:List ay}
local macro_rules| `(tactic|walk_at "w")=>`(tactic|conv=>whnf)
local macro_rules| `(tactic|left)=>`(tactic|walk_at "w")
local macro_rules| `(tactic|symm)=>`(tactic|((with_reducible (repeat(first|exact af.e|apply af.t)));done))
local macro_rules| `(tactic|ac_rfl)=>`(tactic|((with_reducible (repeat(first|exact a7.e|apply a7.t)));done))
local macro_rules| `(tactic|ac_nf)=>`(tactic|first|(with_reducible exact Sub.refl)|(refine' Sub.cons ?h ?r;(case h=>symm);(case r=>ac_nf))|(with_reducible exact Sub.nil)|(with_reducible apply Sub.drop;(ac_nf)))
local macro_rules| `(tactic|walk_at "sp")=>`(tactic|(refine Sep.sub ?_ (by with_reducible assumption);(ac_nf)))
local macro_rules| `(tactic|grind)=>`(tactic|first|exact Sep.get (by with_reducible assumption) (by symm)|exact Sep.gr (by with_reducible assumption) (by symm))
local macro_rules| `(tactic|walk_at "ar")=>`(tactic|first|lia|omega|decide|exact mo rfl|(unfold lr;omega)|(unfold pZ;omega)|(unfold pZ;decide)|(unfold lr;decide)|(simp only[bv,length_set,length_replicate];omega))
local macro_rules| `(tactic|walk_at "ls")=>`(tactic|first|(conv=>lhs;simp only[List.set_cons_succ,List.set_cons_zero,Int.reduceToNat])|rfl)
local macro_rules| `(tactic|walk_at "pf")=>`(tactic|first|(conv=>lhs;simp (decide:=true) only [a3,if_true,if_false])|rfl)
local macro_rules| `(tactic|walk_at "st")=>`(tactic|first
  |(with_reducible refine And.intro rfl ?_)
  |(with_reducible refine aR rfl ?_)
  |(with_reducible refine kl rfl ?_)
  |(with_reducible refine tS ?_)
  |((with_reducible refine' eA ?e ?v ?_);(case e=>grind);(case v=>exact rfl))
  |((with_reducible refine' bG ?e ?v ?_);(case e=>grind);(case v=>exact rfl))
  |((with_reducible refine' wW ?e ?i ?v ?_);(case e=>grind);(case i=>omega);(case v=>exact rfl))
  |(with_reducible refine bf_min rfl ?_)
  |(with_reducible refine bf_max rfl ?_)
  |((with_reducible refine' g7 ?e ?_);(case e=>grind))
  |((with_reducible refine' gB ?e ?_);(case e=>grind))
  |((with_reducible refine' sv ?s ?r ?j ?x (λH hs=>?_));(case s=>with_reducible assumption);(case r=>ac_rfl);(case j=>exact rfl);(case x=>walk_at "ls"))
  |((with_reducible refine' vF ?s ?l (λp H hs=>?_));(case s=>with_reducible assumption);(case l=>exact mo rfl))
  |((with_reducible refine' tL ?s ?l (λp H hs=>?_));(case s=>with_reducible assumption);(case l=>exact mo rfl))
  |((with_reducible refine' al_dct ?s (λp H hs=>?_));(case s=>with_reducible assumption))
  |((with_reducible refine' jI ?e ?_);(case e=>grind))
  |((with_reducible refine' it_e ?e ?_);(case e=>grind))
  |((with_reducible refine' eU ?s ?e ?f ?l (λp H hs=>?_));(case s=>with_reducible assumption);(case e=>grind);(case f=>grind);(case l=>walk_at "ar"))
  |((with_reducible refine' wQ ?s ?e ?f ?g ?l (λp H hs=>?_));(case s=>with_reducible assumption);(case e=>grind);(case f=>walk_at "ar");(case g=>walk_at "ar");(case l=>walk_at "ar"))
  |((with_reducible refine' wj ?s ?r ?o ?n ?l ?x (λH hs=>?_));(case s=>with_reducible assumption);(case r=>ac_rfl);(case o=>exact rfl);(case n=>exact rfl);(case l=>walk_at "ar");(case x=>walk_at "pf"))
  |((with_reducible refine' cb ?e ?o ?n ?l ?_);(case e=>grind);(case o=>exact rfl);(case n=>exact rfl);(case l=>exact rfl))
  |((with_reducible refine' fld_x ?e ?o ?n ?l ?_);(case e=>grind);(case o=>exact rfl);(case n=>exact rfl);(case l=>exact rfl))
  |((with_reducible refine' isi_x ?e ?o ?b ?_);(case e=>grind);(case o=>exact rfl);(case b=>exact rfl))
  |((with_reducible refine' isi_xt ?e ?o ?b ?_);(case e=>grind);(case o=>exact rfl);(case b=>exact rfl))
  |((with_reducible refine' bZ ?t ?b ?_);(case t=>exact rfl);(case b=>exact rfl))
  |((with_reducible refine' rF ?a ?b ?_);(case a=>exact rfl);(case b=>exact rfl))
  |((with_reducible refine' qK ?a ?b ?_);(case a=>exact rfl);(case b=>exact rfl))
  |((with_reducible refine' j3 ?s ?e (λp H hs=>?_));(case s=>with_reducible assumption);(case e=>grind))
  |((with_reducible refine' sl_l ?s ?e (λp H hs=>?_));(case s=>with_reducible assumption);(case e=>grind))
  |(refine And.intro (by walk_at "ar") ?_))
local macro_rules| `(tactic|walk_at "go")=>`(tactic|(walk_at "w";repeat(walk_at "st";walk_at "w")))
local macro_rules| `(tactic|right)=>`(tactic|walk_at "go")
abbrev hand (h:Addr)(m:Int):ay:=ex λx:Addr×List Int×Int×Int×Int×Int=>kg (pt h (ut [sw x.1,sK x.2.2.1,sK x.2.2.2.1,sK x.2.2.2.2.1,sK x.2.2.2.2.2])) (kg (pt x.1 (ut (x.2.1.map sK)))
 (pu (x.2.1.length<=63/\0<=x.2.2.1/\x.2.2.1<2147483629/\0<=x.2.2.2.1/\0<=x.2.2.2.2.1/\0<=x.2.2.2.2.2/\x.2.2.2.2.2<=m)))
def nS (s:Sep (hand h m::O) H):∃ (c:Addr) (ns:List Int) (fo i r n:Int),Sep (pt h (ut [sw c,sK fo,sK i,sK r,sK n])::pt c (ut (ns.map sK))::O) H/\ns.length<=63/\0<=fo/\fo<2147483629/\0<=i/\0<=r/\0<=n/\n<=m:=by
 obtain⟨⟨c,ns,fo,i,r,n⟩,s⟩:=Sep.zt.mp s;have s2:=Sep.star.mp ((Sep.star.mp s).pull .k1);have p:=(s2.pull .k1).pure;exact⟨c,ns,fo,i,r,n,((s2.pull .k1).drop).pull .k1,p⟩
def dq {c:Addr}{fo r n:Int}(s:Sep (pt h (ut [sw c,sK fo,sK i,sK r,sK n])::pt c (ut (ns.map sK))::O) H)(p:ns.length<=63/\0<=fo/\fo<2147483629/\0<=i/\0<=r/\0<=n/\n<=m):Sep (hand h m::O) H:=by
 refine Sep.zt.mpr ⟨⟨c,ns,fo,i,r,n⟩,Sep.star.mpr ?_⟩;exact(Sep.star.mpr (((s.pull .k1).pull .e |> λs=>(Sep.yN p s).pull .k1))).pull .k1
def w4:(10:Int) ^ Int.toNat 18=1000000000000000000:=by decide
def ud {n:Int}(hk:1<=k)(s:Sep (hand h m::O) H)(hm:m<=1099511627776)(hn0:0<n)(hn1:n<1073741824)
  (q:∀ (r:Int) (H':Hp),0<=r->r<n->Sep (hand h (m+1)::O) H'->Q (sK r) H'):ae tab R k 20 [sw h,sK n] H Q E:=by
 obtain⟨c,ns,fo,i,r,j,hs,h63,f0,f1,i0,r0,k0,k1⟩:=nS s;clear s;have nn:n≠0:=by omega
 delta dy;right;refine f7 (λhr=>?_) (λhr=>?_)
 .right;rename_i H1 hs1 H2 hs2;exact q _ _ (Int.emod_nonneg _ nn) (Int.emod_lt_of_pos _ hn0) (dq hs2 ⟨h63,f0,f1,i0,Int.ediv_nonneg r0 nofun,by omega,by omega⟩)
 right;refine f7 (λhc=>?_) (λhc=>?_)
 .right;obtain⟨z,hz⟩:∃ z,fR (ns.map sK) i=some (sK z):=mG i0 (by rw[bv]at hc;exact hc);refine eA (by grind) hz ?_;right;refine f7 (λhz18=>?_) (λhz18=>?_)
  .rw[w4]at hz18;right;rename_i H1 hs1 H2 hs2 H3 hs3;exact q _ _ (Int.emod_nonneg _ nn) (Int.emod_lt_of_pos _ hn0) (dq hs3 ⟨h63,f0,f1,by omega,Int.ediv_nonneg nofun nofun,by omega,by omega⟩)
  .right;rename_i H1 hs1 H2 hs2;exact q _ _ (Int.emod_nonneg _ nn) (Int.emod_lt_of_pos _ hn0) (dq hs2 ⟨h63,f0,f1,by omega,r0,by omega,by omega⟩)
 .right;rename_i H1 hs1;exact q _ _ (Int.emod_nonneg _ nn) (Int.emod_lt_of_pos _ hn0) (dq hs1 ⟨h63,f0,f1,by omega,r0,by omega,by omega⟩)
def vd (hk:1<=k)(s:Sep O H)(hS:ax R.K H a (ns.map sK))(h63:ns.length<=63)(q:∀ h H',Sep (hand h 0::O) H'->Q (sw h) H'):ae tab R k 19 [sw a] H Q E:=by
 delta dD;right;refine yO s hS (λp H1 hs1=>?_);rw[xi ns h63]at hs1;right;rename_i c H2 hs2;refine qP (xs:=ns.map sK) (λj U H=>∃ (fo:Int) (v:Option V),U=[some (sw a),some (sw c),some (sK fo),v]/\0<=fo/\fo<2147483629/\Sep (pt c (ut (ns.map sK))::pt p (ut (ns.map sK))::O) H) ?_ ?_ ?_ ?_
 .exact⟨_,none,rfl,by rw[bv];omega,by rw[bv];omega,hs2⟩
 .rintro j U H ⟨fo,v,rfl,h0,h2,hs⟩;exact ax.of hs.at
 .rintro j x U H hx ⟨fo,v,rfl,h0,h2,hs⟩;obtain⟨z,rfl⟩:=jD hx;right;exact⟨_,_,rfl,by omega,by omega,hs⟩
 .rintro U H ⟨fo,v,rfl,h0,h2,hs⟩;right;rename_i l H3 hs3;exact q l _ (dq ((hs3.pull .k2).drop) ⟨h63,h0,h2,by omega,by omega,by omega,by omega⟩)
def ar {n:Int}(s:Sep (hand h m::O) H)(e:m<=n):Sep (hand h n::O) H:=by
 obtain⟨c,ns,fo,i,r,j,hs,h63,f0,f1,i0,r0,k0,k1⟩:=nS s;exact dq hs ⟨h63,f0,f1,i0,r0,k0,by omega⟩
inductive Kd (H:Hp):V->String->Prop where
 |non:Kd H ul "NoneType"
 |bl (b:Bool):Kd H (.bl b) "bool"
 |int (i:Int):Kd H (sK i) "int"
 |str (x:Str):Kd H (tz x) "str"
 |lst {a:Addr}{xs:List V}(e:H a=some (ut xs)):Kd H (sw a) "list"
 |tup {a:Addr}{xs:List V}(e:H a=some (v0 xs)):Kd H (sw a) "tuple"
 |dct {a:Addr}{kvs:List (Key×V)}(e:Rd H a (.dK kvs)):Kd H (sw a) "dict"
def fK (h:tyName v H=some t):Kd H v t:=by
 unfold tyName at h
 split at h
 .cases h;exact .non
 .cases h;exact .bl _
 .cases h;exact .int _
 .cases h;exact .str _
 .split at h
  .rename_i e;cases h;exact .lst e
  .rename_i e;cases h;exact .tup e
  .rename_i e;cases h;exact .dct (.inl e)
  .rename_i e;cases h;exact .dct (.inr ⟨_,e⟩)
  .cases h
 .cases h
abbrev mv:V->Bool
 | sK _=>true
 |_=>false
abbrev sX:V->Bool
 | sK i=>decide (0<=i)&&decide (i<=1000000000)
 |_=>false
def bq (hk:1<=k)(ht:tyName v H=some t)(q:Q (.bl (mv v)) H):ae tab R k 1 [v] H Q E:=by
 delta eX;right;cases fK ht
 all_goals
  refine bZ ht rfl ?_;right
  first
   |exact q
   |(refine bZ ht rfl ?_;right;exact q)
def cE (ro:Ro K R)(hk:2<=k)(ht:tyName v H=some t)(q:Q (.bl (sX v)) H):ae tab R k 2 [v] H Q E:=by
 delta cK;right;refine bq nofun ht ?_;cases fK ht
 case int i=>
  right;refine f7 (λh0=>?_) (λh0=>?_)
  .left;simp only[ro.g_BOUND];right;have e:sX (sK i)=decide (i<=1000000000):=by simp[sX,h0]
   rw[e]at q;exact q
  .right;have e:sX (sK i)=false:=by simp[sX,h0]
   rw[e]at q;exact q
 all_goals
  right;exact q
def rN {x:V}:(pc (Int.toNat (n:Int)) [x]).flatten=pc n x:=by
 rw[ol]
 induction n with
 |zero=>rfl
 |succ n ih=>rw[replicate_succ,flatten_cons,ih];rfl
abbrev bB (w:Str):Bool:="open" ==w||("look" ==w||("shut" ==w||false))
def mz:(10:Int) ^ Int.toNat 9=1000000000:=by decide
local macro_rules| `(tactic|walk_at "dr")=>`(tactic|(refine' ud ?k ?s ?m ?a ?b (λr H hr0 hr1 hs=>?_);(case s=>walk_at "sp");(case k=>exact nofun);(case m=>omega);(case a=>walk_at "ar");(case b=>walk_at "ar")))
local macro_rules| `(tactic|walk_at "gd")=>`(tactic|(walk_at "w";repeat(first|(walk_at "st";walk_at "w")|(walk_at "dr";walk_at "w"))))
def gi (hk:2<=k)(s:Sep (hand h m::O) H)(hm:m<=1099511000000)(q:∀ i H',0<=i->i<=1000000000->Sep (hand h (m+3)::O) H'->Q (sK i) H'):ae tab R k 21 [sw h] H Q E:=by
 delta bC;walk_at "gd";refine dB (λh0=>?_) (λh0=>?_)
 .walk_at "gd";rename_i r H2 hr0 hr1 hs2;exact q _ _ nofun nofun (ar hs2 nofun)
 walk_at "gd";refine dB (λh1=>?_) (λh1=>?_)
 .walk_at "gd";rename_i r H2 hr0 hr1 hs2;exact q _ _ (by rw[mz];omega) (by rw[mz];omega) (ar hs2 nofun)
 walk_at "gd";refine dB (λh2=>?_) (λh2=>?_)
 .walk_at "gd";rename_i r H2 hr0 hr1 hs2;exact q _ _ nofun nofun (ar hs2 nofun)
 walk_at "gd";rename_i r H2 hr0 hr1 hs2 r' H3 hr0' hr1' hs3;rw[mz];exact q _ _ nofun nofun (ar hs3 nofun)
abbrev cj (ns:List Int):Prop:=∀ i ∈ ns,0<=i/\i<=1000000000
def js (h:cj ns)(h0:0<=i)(h1:i<=1000000000):cj (ns++[i]):=λj hj=>by
 rcases mem_append.mp hj with hj|hj
 .exact h j hj
 .rw[mem_singleton.mp hj];exact⟨h0,h1⟩
def rR {M:Int}(hk:3<=k)(s:Sep (hand h m::O) H)(hm:m<=1099510000000)(hM0:1<=M)(hM1:M<=60)(q:∀ p ns H',1<=ns.length->(ns.length:Int)<=M->cj ns->Sep (pt p (ut (ns.map sK))::hand h (m+300)::O) H'->Q (sw p) H'):ae tab R k 22 [sw h,sK M] H Q E:=by
 delta cU;walk_at "gd";rename_i wy H1 wy0 wy1 hs1 mn H2 mn0 mn1 hs2;have st:∀ {D:Addr},H2 D=none->(∃ ns,([]:List V)=ns.map sK/\cj ns)/\Sep (pt D (ut [])::hand h (m+2+4*((([]:List V).length:Nat):Int))::O) (upd H2 D (ut [])):=λ{D} hD=>by
  refine⟨⟨[],rfl,λi hi=>absurd hi (by simp)⟩,?_⟩;have s1:=hs2.new (o:=ut []) hD;exact(ar (s1.pull .k1) (by simp;omega)).pull .k1
 have sp:∀ {D:Addr}{ys:List V}{i n:Int}{x:Option V}{rest:St}{H:Hp},((ys.length:Nat):Int)<1+mn->(∃ ns,ys=ns.map sK/\cj ns)->0<=i->i<=1000000000->n<=m+2+4*((ys.length+1:Nat):Int)->Sep (hand h n::pt D (ut ys)::O) H->dw (λD ys H=>(∃ ns,ys=ns.map sK/\cj ns)/\Sep (pt D (ut ys)::hand h (m+2+4*((ys.length:Nat):Int))::O) H) D ys rest x (sK i) H:=λ{D ys i n x rest H} hl hI h0 h1 hn hs=>by
  obtain⟨ns,e,hc⟩:=hI;refine dw.mk (by grind) nofun ⟨⟨ns++[i],by rw[e];simp,js hc h0 h1⟩,?_⟩;have hs7:=(hs.pull .k1).set (o':=ut (ys++[sK i])) rfl;refine(ar (hs7.pull .k1) ?_).pull .k1;rw[ce];exact hn
 have fi:∀ {D:Addr}{ys:List V}{H:Hp},ys.length=(1+mn).toNat->((∃ ns,ys=ns.map sK/\cj ns)/\Sep (pt D (ut ys)::hand h (m+2+4*((ys.length:Nat):Int))::O) H)->Q (sw D) H:=λ{D ys H} hl hI=>by
  obtain⟨⟨ns,rfl,hc⟩,hs⟩:=hI;rw[bv]at hl;refine q D ns H nofun nofun hc ?_;exact(ar (hs.pull .k1) (by rw[bv];omega)).pull .k1
 refine dB (λh0=>?_) (λh0=>?_)
 .walk_at "gd";refine jz (n:=(1+mn).toNat) nofun (λD ys H=>(∃ ns,ys=ns.map sK/\cj ns)/\Sep (pt D (ut ys)::hand h (m+2+4*((ys.length:Nat):Int))::O) H) (λD hD=>st hD) (λD ys H hl hI=>?_) (λD ys H hl hI=>fi hl hI);obtain⟨hI,hs⟩:=hI;walk_at "gd";rename_i r H6 r0 r1 hs6;exact sp nofun hI nofun nofun nofun hs6
 walk_at "gd";refine dB (λh1=>?_) (λh1=>?_)
 .walk_at "gd";refine jz (n:=(1+mn).toNat) nofun (λD ys H=>(∃ ns,ys=ns.map sK/\cj ns)/\Sep (pt D (ut ys)::hand h (m+2+4*((ys.length:Nat):Int))::O) H) (λD hD=>st hD) (λD ys H hl hI=>?_) (λD ys H hl hI=>fi hl hI);obtain⟨hI,hs⟩:=hI;walk_at "gd";rename_i r H6 r0 r1 hs6;exact sp nofun hI nofun nofun nofun hs6
 walk_at "gd";refine jz (n:=(1+mn).toNat) nofun (λD ys H=>(∃ ns,ys=ns.map sK/\cj ns)/\Sep (pt D (ut ys)::hand h (m+2+4*((ys.length:Nat):Int))::O) H) (λD hD=>st hD) (λD ys H hl hI=>?_) (λD ys H hl hI=>fi hl hI);obtain⟨hI,hs⟩:=hI;walk_at "gd";refine gi nofun (hs.pull .k1) nofun (λi H i0 i1 hs=>?_);exact sp nofun hI i0 i1 nofun hs
abbrev vY:List Str:=["here","there","left","way","sign","met"]
abbrev gm:V->Bool
 | sK i=>decide (-1000000000<=i)&&decide (i<=1000000000)
 |_=>false
abbrev ja (a b:Int):V->Bool
 | sK i=>i ==a||i ==b
 |_=>false
abbrev bA:Nat->V->Bool
 |0,v=>gm v
 |1,v=>gm v
 |3,v=>ja 1 (-1) v
 |5,v=>ja 0 1 v
 |_,v=>sX v
def dC (ro:Ro K R)(hk:2<=k)(ht:tyName v H=some t)(q:Q (.bl (gm v)) H):ae tab R k 3 [v] H Q E:=by
 delta du;right;refine bq nofun ht ?_;cases fK ht
 case int i=>
  left;refine aR rfl ?_;left;simp only[ro.g_BOUND];right;refine f7 (λh0=>?_) (λh0=>?_)
  .left;simp only[ro.g_BOUND];right;have e:gm (sK i)=decide (i<=1000000000):=by simp[gm,h0]
   rw[e]at q;exact q
  .right;have e:gm (sK i)=false:=by simp[gm,h0]
   rw[e]at q;exact q
 all_goals
  right;exact q
def vb (h:vY[j]? =some x):(j=0/\x="here")\/(j=1/\x="there")\/(j=2/\x="left")\/(j=3/\x="way")\/(j=4/\x="sign")\/(j=5/\x="met"):=by
 rcases j with _|_|_|_|_|_|j
 .cases h;exact .inl ⟨rfl,rfl⟩
 .cases h;exact .inr (.inl ⟨rfl,rfl⟩)
 .cases h;exact .inr (.inr (.inl ⟨rfl,rfl⟩))
 .cases h;exact .inr (.inr (.inr (.inl ⟨rfl,rfl⟩)))
 .cases h;exact .inr (.inr (.inr (.inr (.inl ⟨rfl,rfl⟩))))
 .cases h;exact .inr (.inr (.inr (.inr (.inr ⟨rfl,rfl⟩))))
 .exact absurd h (by simp[vY])
local macro_rules| `(tactic|walk_at "sc")=>`(tactic|first|(refine aR (by decide+kernel) ?_;walk_at "go")|(refine kl (by decide+kernel) ?_;walk_at "go"))
def ux (ro:Ro K R)(hk:3<=k)(hj:vY[j]? =some x)(ht:tyName v H=some t)(q:Q (.bl (bA j v)) H):ae tab R k 4 [tz x,v] H Q E:=by
 delta oj;rcases vb hj with⟨rfl,rfl⟩|⟨rfl,rfl⟩|⟨rfl,rfl⟩|⟨rfl,rfl⟩|⟨rfl,rfl⟩|⟨rfl,rfl⟩
 all_goals right
 all_goals repeat walk_at "sc"
 .exact dC ro nofun ht q
 .exact dC ro nofun ht q
 .exact cE ro nofun ht q
 .refine bq nofun ht ?_;cases fK ht
  case int i=>
   right;refine dB (λh0=>?_) (λh0=>?_)
   .right;have e:bA 3 (sK i)=true:=by simp[bA,ja,h0]
    rw[e]at q;exact q
   .right;have e:bA 3 (sK i)=(i == -1):=by simp[bA,ja,h0]
    rw[e]at q;exact q
  all_goals
   right;exact q
 .exact cE ro nofun ht q
 .refine bq nofun ht ?_;cases fK ht
  case int i=>
   right;refine dB (λh0=>?_) (λh0=>?_)
   .right;have e:bA 5 (sK i)=true:=by simp[bA,ja,h0]
    rw[e]at q;exact q
   .right;have e:bA 5 (sK i)=(i ==1):=by simp[bA,ja,h0]
    rw[e]at q;exact q
  all_goals
   right;exact q
def nV (hk:1<=k)(ht:tyName v H=some t)(q:Q (.bl (mv v)) H):ae tab R k 24 [v] H Q E:=by
 delta cM;right;cases fK ht
 all_goals
  refine bZ ht rfl ?_;right
  first
   |exact q
   |(refine bZ ht rfl ?_;right;exact q)
local macro_rules| `(tactic|walk_at "ag")=>`(tactic|first|refine wargs2 (vs':=[_,_]) rfl ?_|refine wargs2 (vs':=[_,_,_]) rfl ?_|refine wargs2 (vs':=[_]) rfl ?_|refine wargs2 (vs':=[_,_,_,_]) rfl ?_)
local macro_rules| `(tactic|walk_at "mt")=>`(tactic|first|((with_reducible refine' meth_go Ob_bx ?s ?p ?m ?f ?_);(case s=>with_reducible assumption);(case p=>symm);(case m=>exact rfl);(case f=>exact rfl))|((with_reducible refine' meth_go Ob_sto ?s ?p ?m ?f ?_);(case s=>with_reducible assumption);(case p=>symm);(case m=>exact rfl);(case f=>exact rfl)))
local macro_rules| `(tactic|walk_at "hq")=>`(tactic|((with_reducible (first|refine' ho_h ?r ?k ?s ?p ?_|refine' ho_t ?r ?k ?s ?p ?_|refine' ho_l ?r ?k ?s ?p ?_|refine' ho_w ?r ?k ?s ?p ?_|refine' ho_s ?r ?k ?s ?p ?_|refine' ho_m ?r ?k ?s ?p ?_));(case r=>with_reducible assumption);(case k=>exact nofun);(case s=>with_reducible assumption);(case p=>symm)))
local macro_rules| `(tactic|walk_at "gq")=>`(tactic|((with_reducible (first|refine' gi_h ?r ?k ?s ?p ?i (λH hs=>?_)|refine' gi_t ?r ?k ?s ?p ?i (λH hs=>?_)|refine' gi_l ?r ?k ?s ?p ?i (λH hs=>?_)|refine' gi_m ?r ?k ?s ?p ?i (λH hs=>?_)));(case r=>with_reducible assumption);(case k=>exact nofun);(case s=>with_reducible assumption);(case p=>ac_rfl);(case i=>omega)))
local macro_rules| `(tactic|walk_at "ws")=>`(tactic|(walk_at "w";repeat(first|(walk_at "st";walk_at "w")|(walk_at "mt";walk_at "w")|(walk_at "ag";(walk_at "hq");walk_at "w")|(walk_at "ag";(walk_at "gq");walk_at "w"))))
local macro_rules| `(tactic|walk_at "sc")=>`(tactic|first|(refine aR (by decide+kernel) ?_;walk_at "go")|(refine kl (by decide+kernel) ?_;walk_at "go"))
abbrev au (ws:List Str):Prop:=∀ w ∈ ws,bB w=true
def iS (h:au ws)(hw:bB w=true):au (ws.set n w):=λx hx=>by
 rcases List.mem_or_eq_of_mem_set hx with hx|rfl
 .exact h x hx
 .exact hw
def lJ (hk:2<=k)(hm:m<=1099511000000)(h1:1<=n)(h60:n<=60)(s:Sep (hand h m::O) H)
  (q:∀ p ws H',ws.length=n->au ws->Sep (pt p (ut (ws.map tz))::hand h (m+20)::O) H'->Q (sw p) H'):ae tab R k 23 [sw h,sK n] H Q E:=by
 delta ck;walk_at "gd";rename_i l H1 hs1 b H2 hs2 l2 H3 hs3 r H4 r0 r1 hs4;rw[rN,show pc n (tz "open")=(pc n ("open":Str)).map tz by rw[map_replicate]]at hs4;obtain⟨v,hv,hmem⟩:=a5 (xs:=[sK 0,sK 0,sK 1,sK 2,sK 4]) r0 (by simpa using r1);refine eA (by grind) hv ?_;obtain⟨M,rfl,M0,M1⟩:∃ M:Int,v=sK M/\0<=M/\M<=4:=by
  simp only[le,not_mem_nil,or_false]at hmem;rcases hmem with rfl|rfl|rfl|rfl|rfl
  .exact⟨_,rfl,by omega,by omega⟩
  .exact⟨_,rfl,by omega,by omega⟩
  .exact⟨_,rfl,by omega,by omega⟩
  .exact⟨_,rfl,by omega,by omega⟩
  .exact⟨_,rfl,by omega,by omega⟩
 have hs5:Sep (pt b (ut ((pc n ("open":Str)).map tz))::hand h (m+1)::O) H4:=hs4.sub (by ac_nf);clear hs1 hs2 hs3 hs4 hv hmem;walk_at "gd";refine cI (n:=M.toNat) (λj U H=>∃ y3 y4 y5 y6,∃ ws:List Str,U=[some (sw h),some (sK n),some (sw b),y3,y4,y5,y6]/\ws.length=n/\au ws/\Sep (pt b (ut (ws.map tz))::hand h (m+1+3*(j:Int))::O) H) ?_ ?_ ?_
 .refine⟨_,_,_,_,_,rfl,length_replicate ..,λw hw=>?_,(ar (n:=m+1+3*((0:Nat):Int)) (hs5.pull .k1) nofun).pull .k1⟩;rw[(List.mem_replicate.mp hw).2]
  decide
 .rintro j U H hj ⟨y3,y4,y5,y6,ws,rfl,hl,hw,hs⟩;clear hs5;walk_at "gd";rename_i l4 H5 hs5 x H6 x0 x1 hs6;obtain⟨v,hv,hmem⟩:=a5 (xs:=[tz "look",tz "shut",tz "look",tz "open"]) x0 (by simpa using x1);refine eA (by grind) hv ?_;obtain⟨wd,rfl,hwd⟩:∃ wd,v=tz wd/\bB wd=true:=by
   simp only[le,not_mem_nil,or_false]at hmem;rcases hmem with rfl|rfl|rfl|rfl<;>exact⟨_,rfl,by decide⟩
  walk_at "gd";rename_i lo H7 lo0 lo1 hs7 d H8 d0 d1 hs8;have hs9:Sep (pt b (ut (ws.map tz))::hand h (m+1+3*((j+1:Nat):Int))::O) H8:=(ar (n:=m+1+3*((j+1:Nat):Int)) (hs8.pull (A:=hand h (m+1+3*(j:Int)+1+1+1)) (by symm)) nofun).sub (by ac_nf);clear hs hs5 hs6 hs7 hs8 hv hmem;refine cI (λi U H=>∃ y6,∃ ws:List Str,U=[some (sw h),some (sK n),some (sw b),some (sK (0+(j:Int))),some (tz wd),some (sK lo),y6]/\ws.length=n/\au ws/\Sep (pt b (ut (ws.map tz))::hand h (m+1+3*((j+1:Nat):Int))::O) H) ?_ ?_ ?_
  .exact⟨_,ws,rfl,hl,hw,hs9⟩
  .rintro i U H hi ⟨y6,ws,rfl,hl,hw,hs⟩;right;refine sv hs (by ac_rfl) (uT nofun (by rw[bv];omega)) rfl (λH hs=>?_);right;rw[<-List.map_set]at hs;exact⟨_,_,rfl,by rw[length_set];exact hl,iS hw hwd,hs⟩
  .rintro U H ⟨y6,ws,rfl,hl,hw,hs⟩;right;exact⟨_,_,_,_,ws,rfl,hl,hw,hs⟩
 .rintro U H ⟨y3,y4,y5,y6,ws,rfl,hl,hw,hs⟩;right;exact q b ws H hl hw ((ar (n:=m+20) (hs.pull .k1) nofun).pull .k1)
abbrev dO (n:Nat):List Nat:=(Nat.toDigits 10 n).map Char.toNat
def qw:∀ d:Nat,d<10->(Nat.digitChar d).toNat=48+d:=by decide
def dk (h:n<10):dO n=[48+n]:=by
 unfold dO;rw[Nat.toDigits_of_lt_base h,List.map_singleton,qw n h]
def cB (h:10<=n):dO n=dO (n / 10)++[48+n % 10]:=by
 have hm:n % 10<10:=Nat.mod_lt n (by decide);have t:Nat.toDigits 10 (n / 10)++Nat.toDigits 10 (n % 10)=Nat.toDigits 10 (10*(n / 10)+n % 10):=Nat.toDigits_append_toDigits (by decide) nofun hm;rw[Nat.div_add_mod]at t;rw[<-dk hm];unfold dO;rw[<-t,dl]
def cC:∀ {n:Nat},∃ c r,dO n=c::r/\48<=c:=by
 intro n
 induction n using Nat.strongRecOn with
 |_ n ih=>
  by_cases h:n<10
  .exact⟨_,_,dk h,by omega⟩
  .obtain⟨c,r,e,hc⟩:=ih (n / 10) nofun;exact⟨c,_,by rw[cB nofun,e];rfl,hc⟩
def qC (m:Nat):(Str.ofString (toString (m:Int))).cps.toList=dO m:=W.KIN.signs_num m
def rG (m:Nat):(Str.ofString (toString (Int.negSucc m))).cps.toList=45::dO (m+1):=by
 rw[PyProof.Rows.signs_ofString];show(("-"++Nat.repr (m+1)).toList).map Char.toNat=_;rw[String.toList_append,Nat.toList_repr,dl]
 rfl
abbrev jm:Str:=⟨#[32]⟩
def join_cons {s y:Str}{r:List Str}:(Str.join s (x::y::r)).cps.toList=x.cps.toList++(s.cps.toList++(Str.join s (y::r)).cps.toList):=by
 show(x++s++Str.join s (y::r):Str).cps.toList=_;rw[W.KT.app_list,W.KT.app_list,im]
def o6 {c:Nat}:∀ {a b s t:List Nat},c ∉ a->c ∉ b->a++c::s=b++c::t->a=b/\s=t
 | [],[],_,_,_,_,h=>⟨rfl,(List.cons.inj h).2⟩
 | [],y::b,_,_,_,hb,h=>absurd ((List.cons.inj h).1▸jp) hb
 |x::a,[],_,_,ha,_,h=>absurd ((List.cons.inj h).1▸jp) ha
 |x::a,y::b,_,_,ha,hb,h=>by
  obtain⟨e1,e2⟩:=List.cons.inj h;obtain⟨e3,e4⟩:=o6 (λz=>ha (db _ z)) (λz=>hb (db _ z)) e2;exact⟨by rw[e1,e3],e4⟩
def iG {c:Nat}:∀ {ws vs:List Str},ws≠[]->vs≠[]->(∀ w ∈ ws,c ∉ w.cps.toList)->(∀ w ∈ vs,c ∉ w.cps.toList)->Str.join ⟨#[c]⟩ ws=Str.join ⟨#[c]⟩ vs->ws=vs
 | [],_,h,_,_,_,_=>absurd rfl h
 |_::_,[],_,h,_,_,_=>absurd rfl h
 | [x],[y],_,_,_,_,h=>by rw[show x=y from h]
 | [x],y::y2::r,_,_,h1,_,h=>by
  have e:=congrArg (λz:Str=>z.cps.toList) (show x=Str.join ⟨#[c]⟩ (y::y2::r) from h);have e:x.cps.toList=_:=e;rw[join_cons]at e;exact absurd (by rw[e];exact ge _ (mem_append_left _ jp)) (h1 x jp)
 |y::y2::r,[x],_,_,_,h1,h=>by
  have e:=congrArg (λz:Str=>z.cps.toList) (show Str.join ⟨#[c]⟩ (y::y2::r)=x from h);have e:_=x.cps.toList:=e;rw[join_cons]at e;exact absurd (by rw[<-e];exact ge _ (mem_append_left _ jp)) (h1 x jp)
 |x::x2::r,y::y2::t,_,_,h1,h2,h=>by
  have e:=congrArg (λz:Str=>z.cps.toList) h;have e:(Str.join ⟨#[c]⟩ (x::x2::r)).cps.toList=(Str.join ⟨#[c]⟩ (y::y2::t)).cps.toList:=e;rw[join_cons,join_cons]at e;obtain⟨e1,e2⟩:=o6 (h1 x jp) (h2 y jp) e;have ih:=iG (c:=c) (ws:=x2::r) (vs:=y2::t) (λz=>nomatch z) (λz=>nomatch z) (λw hw=>h1 w (db _ hw)) (λw hw=>h2 w (db _ hw)) (PyProof.Rows.ext_toList e2);rw[PyProof.Rows.ext_toList e1,ih]
def my (x:Str)(c:Nat):Txt.split x ⟨#[c]⟩≠[]:=by
 intro h;have e:x=Str.empty:=(StrLaws.join_split x ⟨#[c]⟩).symm.trans (by rw[h];rfl);subst e;have h0:Txt.split Str.empty ⟨#[c]⟩=[Str.empty]:=if_pos (by rw[show decide (Str.empty.length<(⟨#[c]⟩:Str).length)=true from rfl,Bool.true_or]);rw[h0]at h;cases h
def jo (hn:ws≠[])(hf:∀ w ∈ ws,32 ∉ w.cps.toList):Txt.split (Txt.join jm ws) jm=ws:=by
 refine iG (c:=32) (my _ _) hn (StrLaws.split_free _ 32) hf ?_;show Str.join jm (Txt.split (Txt.join jm ws) jm)=Str.join jm ws;rw[StrLaws.join_split];exact StrLaws.glued_eq_join _ _
abbrev nw (i:Int):Str:=Str.ofString (toString i)
def cA (n:Nat):PySem.NumText.AllDigits (dO n):=by
 induction n using Nat.strongRecOn with
 |_ n ih=>
  intro c hc
  by_cases h:n<10
  .rw[dk h]at hc;have:=mem_singleton.mp hc
   omega
  .rw[cB nofun]at hc;rcases mem_append.mp hc with hc|hc
   .exact ih (n / 10) nofun c hc
   .have:=mem_singleton.mp hc
    omega
def gT (n:Nat):dO n≠[]:=λh=>by
 obtain⟨c,r,e,_⟩:=cC (n:=n);rw[e]at h;cases h
def dN:∀ (k n:Nat),n<10 ^ (k+1)->(dO n).length<=k+1
 |0,n,h=>by rw[dk (by simpa using h)];exact nl _
 |k+1,n,h=>by
  by_cases g:n<10
  .rw[dk g];exact Nat.succ_le_succ (Nat.zero_le _)
  .rw[cB nofun,ce];have:=dN k (n / 10) (by rw[Nat.div_lt_iff_lt_mul (by decide)];rw[<-Nat.pow_succ];exact h);exact Nat.succ_le_succ this
def kQ (h:0<n):∀ c r,dO n=c::r->c≠48:=by
 induction n using Nat.strongRecOn with
 |_ n ih=>
  intro c r e
  by_cases g:n<10
  .rw[dk g]at e;have:=(List.cons.inj e).1
   omega
  .rw[cB nofun]at e;obtain⟨c',r',e',_⟩:=cC (n:=n / 10);rw[e']at e;rw[<-(List.cons.inj e).1];exact ih (n / 10) nofun nofun c' r' e'
def gL (m:Nat):(nw (m:Int)).cps.toList=dO m:=qC m
def eY (m:Nat):(nw (Int.negSucc m)).cps.toList=45::dO (m+1):=rG m
def dg (h:i.natAbs<=1000000000):(nw i).length<=11/\1<=(nw i).length:=by
 have e:(nw i).length=(nw i).cps.toList.length:=Array.length_toList.symm;rw[e];cases i with
 |ofNat m=>
  have:=dN 9 m (by simp at h;omega);rw[show(nw (Int.ofNat m)).cps.toList=dO m from gL m];have:=List.length_pos_iff.mpr (gT m)
  omega
 |negSucc m=>
  have:=dN 9 (m+1) (by simp[Int.natAbs]at h;omega);rw[eY,length_cons]
  omega
def gA:32 ∉ (nw i).cps.toList:=by
 intro h;cases i with
 |ofNat m=>
  rw[show(nw (Int.ofNat m)).cps.toList=dO m from gL m]at h;have:=cA m _ h
  omega
 |negSucc m=>
  rw[eY]at h;rcases le.mp h with h|h
  .cases h
  .have:=cA (m+1) _ h
   omega
def vU (h:i.natAbs<=1000000000):PySem.intText? (nw i)=some i:=by
 have hl:=dg h;cases i with
 |ofNat m=>
  have e:(nw (Int.ofNat m)).cps.toList=dO m:=gL m;have:=PySem.intText_digits (x:=nw (Int.ofNat m)) (by rw[e];exact cA m) (by rw[e];exact gT m) nofun;rw[this,e];exact congrArg (λz:Nat=>some (z:Int)) (W.KIN.val_back m)
 |negSucc m=>
  have:=PySem.intText_neg (x:=nw (Int.negSucc m)) (eY m) (cA (m+1)) (gT (m+1)) nofun;rw[this,show PySem.NumText.digitsVal (dO (m+1))=m+1 from W.KIN.val_back (m+1)]
  rfl
def sj {xs:List V}{r:Int}(h0:0<=r)(h1:r<xs.length)(h:∀ v ∈ xs,P v):∃ v,fR xs r=some v/\P v:=by
 obtain⟨v,hv,hm⟩:=a5 h0 h1;exact⟨v,hv,h v hm⟩
abbrev inR (lo hi:Int)(v:V):Prop:=∃ i,v=sK i/\lo<=i/\i<=hi
def inR.mk {lo hi:Int}(h0:lo<=i)(h1:i<=hi):inR lo hi (sK i):=⟨i,rfl,h0,h1⟩
def zL {a b:V}(ha:P a)(hb:P b):∀ v ∈ [a,b],P v:=λv hv=>by
 simp only[le,not_mem_nil,or_false]at hv;rcases hv with rfl|rfl<;>assumption
def zY {a b c:V}(ha:P a)(hb:P b)(hc:P c):∀ v ∈ [a,b,c],P v:=λv hv=>by
 simp only[le,not_mem_nil,or_false]at hv;rcases hv with rfl|rfl|rfl<;>assumption
abbrev cV:Nat->fv->fv
 |0,b=>b
 |n+1,.cons _ r=>cV n r
 |_+1,.nil=>.nil
def yP {i j:Str}{b:Bool}(e:(!(Builtin.Str.occurrences j i 0 j.length 1).isEmpty)=b)(q:Q (.bl b) H):sx K false (tz i) (tz j) H Q:=by unfold sx;exact⟨i,rfl,by rw[if_neg (by decide),e];exact q⟩
def kf {G:Gx}(hz:z.length<=100000)(q:Q (sK z.length) H):fA G .len [tz z] H Q:=by unfold fA;exact⟨_,z.length,rfl,⟨cY nofun,rfl⟩,q⟩
def kj {y:Str}(e:y=⟨#[c]⟩):Txt.startswith z y=(z.cps.toList[0]? ==some c):=by
 subst e;unfold Txt.startswith
 rw[Bool.eq_iff_iff,lf,decide_eq_true_eq,StrLaws.subAt_one,beq_iff_eq]
def vh:((List.range 10).all λj=>!(Builtin.Str.occurrences ("0123456789":Str) ⟨#[j+48]⟩ 0 ("0123456789":Str).length 1).isEmpty)=true:=by decide+kernel
def vR (h:48<=c/\c<=57)(q:Q (.bl true) H):sx K false (tz ⟨#[c]⟩) (tz ("0123456789":Str)) H Q:=by
 refine yP ?_ q;have z:=all_eq_true.mp vh (c-48) (mem_range.mpr nofun);rw[show c-48+48=c by omega]at z;exact z
def oE {r:List Nat}(e:z.cps.toList=c::r):(iK z (some 1) none).cps.toList=r:=by
 have hl:z.length=r.length+1:=by
  have:z.cps.toList.length=z.length:=Array.length_toList;rw[<-this,e,length_cons]
 show((z.cps.toList.drop (HT.cf z.length 0 (some 1))).take (HT.cf z.length z.length none-HT.cf z.length 0 (some 1))).toArray.toList=r;have h1:HT.cf z.length 0 (some 1)=1:=by
  show(if(1:Int)<0 then((1:Int)+(z.length:Int)).toNat else min (1:Int).toNat z.length)=1;rw[if_neg (by decide)];have:(1:Int).toNat=1:=rfl
  omega
 rw[h1,show HT.cf z.length z.length none=z.length from rfl,e,List.drop_one,List.tail_cons,hl];exact take_of_length_le nofun
def ml {f:Str}{m:Nat}(ro:Ro K R)(z:Sep O H)(hm:m<=1000000000)(hf:f.cps.toList=dO m)(hw:m=0->w="0") (q:∀ H',Sep O H'->Q (.bl true) H'):
  wB (cV 1 bj.body) ⟨tab,R,ae tab R (k-1),true⟩ { nx:=λ_ H'=>Q ul H',rt:=Q } (λ_=>E) [some (tz w),some (tz f)] H:=by
 have hl:f.length=(dO m).length:=by rw[<-hf];exact Array.length_toList.symm
 have l1:=dN 9 m nofun;have l0:=List.length_pos_iff.mpr (gT m);right;refine kf (z:=f) nofun ?_;right;refine aR (decide_eq_true nofun) ?_;right;simp only[ro.g_MOST_FIGURES];right;refine aR (decide_eq_true nofun) ?_;right;refine jX (z:=f) (by show f.length<=1000;omega) (λD ys H=>ys=pc ys.length (.bl true)/\Sep (pt D (ut ys)::O) H) (λD hD=>⟨rfl,z.new (o:=ut []) hD⟩) (λD ys c H hc hI=>?_) (λD ys H hl hI=>?_)
 .obtain⟨e,z1⟩:=hI;have hcm:c ∈ f.cps.toList:=Array.mem_def.mp (Array.mem_of_getElem? hc);rw[hf]at hcm;right;simp only[ro.g_FIGURES];left;refine vR (cA m c hcm) ?_;have hyl:ys.length<f.length:=(Array.getElem?_eq_some_iff.mp hc).1;refine dw.mk z1.at nofun ⟨?_,z1.set rfl⟩;rw[ce,dL,List.replicate_succ',<-e]
 .obtain⟨e,z1⟩:=hI;left;refine jV (bs:=pc ys.length true) (K:=K) rfl (by rw[z1.at,e,map_replicate,length_replicate]) ?_;rw[show(pc ys.length true).all id=true by rw[all_eq_true];intro x hx;rw[List.eq_of_mem_replicate hx];rfl];right
  by_cases h0:m=0
  .refine aR (by rw[hw h0];decide+kernel) ?_;right;exact q _ z1.drop
  .refine f7 (λh1=>?_) (λh1=>?_)
   .right;exact q _ z1.drop
   .right;refine⟨_,rfl,?_⟩;left;refine gj ?_;right;rw[kj (c:=48) (by decide+kernel),hf,show((dO m)[0]? ==some 48)=false from beq_eq_false_iff_ne.mpr λe=>by
     obtain⟨c,r,e2,_⟩:=cC (n:=m);rw[e2]at e;exact kQ nofun c r e2 (Option.some.inj e)]
    exact q _ z1.drop
def xS (ro:Ro K R)(hk:1<=k)(z:Sep O H)(hi:i.natAbs<=1000000000)(q:∀ H',Sep O H'->Q (.bl true) H'):ae tab R k 5 [tz (nw i)] H Q E:=by
 have hl:=dg hi;delta bj;right;refine⟨_,rfl,?_⟩;left;refine gj ?_;rw[kj (c:=45) (by decide+kernel)];cases i with
 |ofNat m=>
  have e:(nw (Int.ofNat m)).cps.toList=dO m:=gL m;rw[e,show((dO m)[0]? ==some 45)=false from beq_eq_false_iff_ne.mpr λe1=>by
   obtain⟨c,r,e2,h⟩:=cC (n:=m);rw[e2]at e1;have:=Option.some.inj e1
   omega]
  refine kl rfl ?_;left;refine ml (w:=nw (Int.ofNat m)) (f:=nw (Int.ofNat m)) (m:=m) (k:=k) ro z (by simpa using hi) e (λh=>by subst h;exact(by decide+kernel:nw (Int.ofNat 0)="0")) (λH' z'=>q H' z')
 |negSucc m=>
  rw[eY,show((45::dO (m+1))[0]? ==some 45)=true from rfl];refine aR rfl ?_;left;refine yW (z:=nw (Int.negSucc m)) nofun ?_;left;refine ml (m:=m+1) (k:=k) ro z (by simp[Int.natAbs]at hi;omega) (oE (eY m)) (λh=>by omega) (λH' z'=>q H' z')
def ky (ro:Ro K R)(hk:2<=k)(z:Sep O H)(hi:i.natAbs<=1000000000)(q:∀ H',Sep O H'->Q (sK i) H'):ae tab R k 6 [tz (nw i)] H Q E:=by
 have hl:=dg hi;delta dz;right;refine kz ?_;right;refine xS ro nofun z hi λH1 z1=>?_
 right;refine pR (z:=nw i) (vU hi) nofun ?_;right;exact q _ z1
abbrev eD (R:Rt)(dx q:Addr)(n:Nat):HO:=wf (R.cad 2) dx [("queue",sw q),("at",sK (n:Int))]
abbrev aW (ws:List Str):HO:=ut (ws.map tz)
def rZ (h:ws[n]? =some w):fR (ws.map tz) (n:Int)=some (tz w):=by
 have hn:n<ws.length:=(pi.mp h).1;have e:lG ws.length (n:Int)=some n:=by unfold lG;simp;omega
 unfold fR;simp[h,bv,e]
section
variable {a dx qa:Addr}{n:Nat}{ws:List Str}{w:Str}
def gH (hk:1<=k)(z:Sep (pt a (eD R dx qa n)::pt qa (aW ws)::O) H)(hw:ws[n]? =some w)(q:Q (tz w) H):ae tab R k 9 [sw a] H Q E:=by
 delta bL;have hn:n<ws.length:=(pi.mp hw).1;have e1:=z.at;have e2:=(z.pull .k1).at;unfold eD at e1;unfold aW at e2;right;refine cb e1 rfl rfl rfl ?_;right;refine cb e1 rfl rfl rfl ?_;right;refine g7 e2 ?_;right;refine aR (decide_eq_true (by rw[bv];omega)) ?_;right;refine cb e1 rfl rfl rfl ?_;right;refine cb e1 rfl rfl rfl ?_;right;refine eA e2 (rZ hw) ?_;right;exact q
def jK (hk:1<=k)(z:Sep (pt a (eD R dx qa n)::pt qa (aW ws)::O) H)(hw:ws[n]? =some w)(q:∀ H',Sep (pt a (eD R dx qa (n+1))::pt qa (aW ws)::O) H'->Q (tz w) H'):ae tab R k 10 [sw a,.bl true] H Q E:=by
 delta cg;have e1:=z.at;have e2:=(z.pull .k1).at;unfold eD at e1;unfold aW at e2;right;refine cb e1 rfl rfl rfl ?_;right;refine cb e1 rfl rfl rfl ?_;right;refine eA e2 (rZ hw) ?_;right;refine cb e1 rfl rfl rfl ?_;right;refine wj z .e rfl rfl (by show 2<1000;omega) (fs':=[("queue",sw qa),("at",sK ((n+1:Nat):Int))]) ?_ λH1 z1=>?_
 .rfl
 right;exact q _ z1
end
section
variable {a dx qa:Addr}{n:Nat}{ws:List Str}{w:Str}
def f6 {lo hi:Int}(ro:Ro K R)(hk:3<=k)(z:Sep (pt a (eD R dx qa n)::pt qa (aW ws)::O) H)(hw:ws[n]? =some (nw i))(hi9:i.natAbs<=1000000000)(h1:lo<=i)(h2:i<=hi)(q:∀ H',Sep (pt a (eD R dx qa (n+1))::pt qa (aW ws)::O) H'->Q (sK i) H'):ae tab R k 11 [sw a,sK lo,sK hi] H Q E:=by
 delta aN;right;refine⟨_,2,_,_,_,rfl,z.at,rfl,rfl,?_⟩;right;refine gH nofun z hw ?_;right;refine ky ro nofun z hi9 λH1 z1=>?_
 right;refine⟨_,2,_,_,_,rfl,z1.at,rfl,rfl,?_⟩;right;refine kz ?_;right;refine aR (decide_eq_true h1) ?_;right;have e:((λ(i j:Int)=>decide (i<=j)) i hi)=true:=decide_eq_true h2;rw[e];refine jK nofun z1 hw λH2 z2=>?_
 right;exact q _ z2
def lU (ro:Ro K R)(hk:4<=k)(z:Sep (pt a (eD R dx qa n)::pt qa (aW ws)::O) H)(hw:ws[n]? =some (nw i))(hi9:i.natAbs<=1000000000)(hj:vY[j]? =some x)(hf:bA j (sK i)=true)(q:∀ H',Sep (pt a (eD R dx qa (n+1))::pt qa (aW ws)::O) H'->Q (sK i) H'):ae tab R k 12 [sw a,tz x] H Q E:=by
 delta aE;right;refine⟨_,2,_,_,_,rfl,z.at,rfl,rfl,?_⟩;right;refine gH nofun z hw ?_;right;refine ky ro nofun z hi9 λH1 z1=>?_
 right;refine⟨_,2,_,_,_,rfl,z1.at,rfl,rfl,?_⟩;right;refine ux ro nofun hj (t:="int") rfl ?_;rw[hf];right;refine jK nofun z1 hw λH2 z2=>?_
 right;exact q _ z2
def l9 (hk:2<=k)(z:Sep (pt a (eD R dx qa n)::pt qa (aW ws)::O) H)(hn:n=ws.length)(q:Q ul H):ae tab R k 15 [sw a] H Q E:=by
 delta bw;have e1:=z.at;have e2:=(z.pull .k1).at;unfold eD at e1;unfold aW at e2;right;refine⟨_,2,_,_,_,rfl,z.at,rfl,rfl,?_⟩;right;delta bS;right;refine cb e1 rfl rfl rfl ?_;right;refine cb e1 rfl rfl rfl ?_;right;refine g7 e2 ?_;right;refine aR (by show((n:Int) ==((ws.map tz).length:Int))=true;rw[bv,hn];exact beq_self_eq_true _) ?_;right;exact q
def n5 {t:Str}(hk:1<=k)(ht:t.length<=100000)(hs:Txt.split t jm=ws)(z:Sep (pt a (wf (R.cad 2) dx [])::O) H)(q:∀ qa H',Sep (pt a (eD R dx qa 0)::pt qa (aW ws)::O) H'->Q ul H'):ae tab R k 8 [sw a,tz t] H Q E:=by
 delta aV;right;refine⟨_,rfl,?_⟩;left;refine ou z (by decide+kernel) ht λqa H1 z1=>?_
 rw[show(Str.ofString " ")=jm by decide+kernel,hs]at z1;right;rename_i H2 z2 H3 z3;exact q qa _ (z3.pull .k1)
end
abbrev fm (w:Str):Nat:=if w="open" then 111 else if w="look" then 108 else 115
abbrev fH (ws:List Str):Str:=⟨(ws.map fm).toArray⟩
def jR (h:bB w=true):w="open"\/w="look"\/w="shut":=by
 unfold bB at h;simp only[Bool.or_eq_true,beq_iff_eq,Bool.or_false]at h;rcases h with h|h|h
 .exact .inl h.symm
 .exact .inr (.inl h.symm)
 .exact .inr (.inr h.symm)
def sk (h:bB w=true):([("o","open"),("l","look"),("s","shut")]:List (Str×Str)).lookup ⟨#[fm w]⟩=some w:=by
 rcases jR h with rfl|rfl|rfl<;>decide+kernel
section
variable {a dx qa:Addr}{n:Nat}{ws lv:List Str}
def pv (h:(fH lv).cps[j]? =some c):∃ w,lv[j]? =some w/\c=fm w:=by
 have h:((lv.map fm).toArray)[j]? =some c:=h;simp only[List.getElem?_toArray,gt,li]at h;obtain⟨w,h1,h2⟩:=h;exact⟨w,h1,h2.symm⟩
def cQ:(fH lv).cps.size=lv.length:=by show(lv.map fm).toArray.size=_;simp
def k4 (ro:Ro K R)(hk:1<=k)(h1:1<=lv.length)(h2:lv.length<=60)(hl:au lv)(z:Sep O H)(q:∀ H',Sep O H'->Q (.bl true) H'):ae tab R k 7 [tz (fH lv)] H Q E:=by
 have hz:(fH lv).length=lv.length:=cQ;delta cn;right;refine uS ?_;right;refine kf (z:=fH lv) nofun ?_;right;refine aR (decide_eq_true nofun) ?_;right;simp only[ro.g_MOST_CELLS];right;refine aR (decide_eq_true nofun) ?_;right;refine jX (z:=fH lv) (by rw[cQ];omega) (λD ys H=>ys=pc ys.length (.bl true)/\Sep (pt D (ut ys)::O) H) (λD hD=>⟨rfl,z.new (o:=ut []) hD⟩) (λD ys c H hc hI=>?_) (λD ys H hl hI=>?_)
 .obtain⟨e,z1⟩:=hI;obtain⟨w,hw,rfl⟩:=pv hc;obtain⟨g,eg,hg⟩:=ro.g_LEAVE_OF;right;simp only[eg];left;refine yD (ro.hK▸hg) ?_;rw[sk (hl w (ci hw))];have hyl:ys.length<lv.length:=(pi.mp hw).1;refine dw.mk z1.at nofun ⟨?_,z1.set rfl⟩;rw[ce,dL,List.replicate_succ',<-e]
  rfl
 .obtain⟨e,z1⟩:=hI;left;refine jV (bs:=pc ys.length true) (K:=K) rfl (by rw[z1.at,e,map_replicate,length_replicate]) ?_;rw[show(pc ys.length true).all id=true by rw[all_eq_true];intro x hx;rw[List.eq_of_mem_replicate hx];rfl];exact q _ z1.drop
def nE (ro:Ro K R)(hk:2<=k)(h1:1<=lv.length)(h2:lv.length<=60)(hl:au lv)(z:Sep (pt a (eD R dx qa n)::pt qa (aW ws)::O) H)(hw:ws[n]? =some (fH lv))(q:∀ l H',Sep (pt l (aW lv)::pt a (eD R dx qa (n+1))::pt qa (aW ws)::O) H'->Q (sw l) H'):ae tab R k 13 [sw a] H Q E:=by
 delta aK;right;refine⟨_,2,_,_,_,rfl,z.at,rfl,rfl,?_⟩;right;refine⟨_,2,_,_,_,rfl,z.at,rfl,rfl,?_⟩;right;refine gH nofun z hw ?_;right;refine k4 ro nofun h1 h2 hl z λH1 z1=>?_
 right;refine jK nofun z1 hw λH2 z2=>?_
 refine jX (z:=fH lv) (by rw[cQ];omega) (λD ys H=>ys=(lv.map tz).take ys.length/\Sep (pt D (ut ys)::pt a (eD R dx qa (n+1))::pt qa (aW ws)::O) H) (λD hD=>⟨rfl,z2.new (o:=ut []) hD⟩) (λD ys c H hc hI=>?_) (λD ys H hl hI=>?_)
 .obtain⟨e,z3⟩:=hI;obtain⟨w,hw,rfl⟩:=pv hc;obtain⟨g,eg,hg⟩:=ro.g_LEAVE_OF;right;simp only[eg];left;refine yM (ro.hK▸hg) (sk (hl w (ci hw))) ?_;have hyl:ys.length<lv.length:=(pi.mp hw).1;refine dw.mk z3.at nofun ⟨?_,z3.set rfl⟩;rw[ce,dL,take_add_one,<-e,gt,hw]
  rfl
 .obtain⟨e,z3⟩:=hI;rw[hl,cQ,take_of_length_le (by simp)]at e;subst e;exact q _ _ z3
end
abbrev dv (bs:List Int):Prop:=bs.length=6/\∀ (j:Nat) (i:Int),bs[j]? =some i->bA j (sK i)=true/\i.natAbs<=1000000000
abbrev jd (cs:List Int):Prop:=∀ i ∈ cs,0<=i/\i<=1000000000
abbrev dQ (at_:Int)(bs:List Int)(lv:List Str)(cs:List Int):List Str:=nw at_::(bs.map nw++(fH lv::cs.map nw))
abbrev xC (T S B C L:Addr)(at_:Int)(bs:List Int)(lv:List Str)(cs:List Int)(O:List ay):List ay:=
 pt T (v0 [sw S,sw L])::pt S (v0 [sK at_,sw B,sw C])::tu B (bs.map sK)::pt C (ut (cs.map sK))::pt L (aW lv)::O
def mh:32 ∉ (fH lv).cps.toList:=by
 show 32 ∉ ((lv.map fm).toArray).toList;rw[List.toList_toArray,List.mem_map];rintro⟨w,_,h⟩;unfold fm at h
 split at h
 .cases h
 .split at h<;>cases h
section
variable {a dx qa:Addr}{ws lv:List Str}{at_:Int}{bs cs:List Int}
def pA:∀ w ∈ dQ at_ bs lv cs,32 ∉ w.cps.toList:=by
 intro w hw;rcases le.mp hw with rfl|hw
 .exact gA
 rcases mem_append.mp hw with hw|hw
 .obtain⟨i,_,rfl⟩:=List.mem_map.mp hw;exact gA
 rcases le.mp hw with rfl|hw
 .exact mh
 .obtain⟨i,_,rfl⟩:=List.mem_map.mp hw;exact gA
def uD (h:bs[j]? =some i):(dQ at_ bs lv cs)[j+1]? =some (nw i):=by
 have hj:j<bs.length:=(pi.mp h).1;show(bs.map nw++(fH lv::cs.map nw))[j]? =_;rw[List.getElem?_append_left (by rw[bv];exact hj),gt,h]
 rfl
def vO (hb:bs.length=6):(dQ at_ bs lv cs)[7]? =some (fH lv):=by
 show(bs.map nw++(fH lv::cs.map nw))[6]? =_;rw[getElem?_append_right (by rw[bv];omega),bv,hb]
 rfl
def uL (hb:bs.length=6)(h:cs[j]? =some i):(dQ at_ bs lv cs)[8+j]? =some (nw i):=by
 rw[show 8+j=(j+7)+1 by omega];show(bs.map nw++(fH lv::cs.map nw))[j+7]? =_;rw[getElem?_append_right (by rw[bv];omega),bv,hb,show j+7-6=j+1 by omega,List.getElem?_cons_succ,gt,h]
 rfl
def hV (hb:bs.length=6):(dQ at_ bs lv cs).length=8+cs.length:=by
 simp[dQ,hb];omega
def ma (ro:Ro K R)(hk:5<=k)(h0:0<=at_)(h1:at_<=24)(hb:dv bs)(hl1:1<=lv.length)(hl2:lv.length<=60)(hl:au lv)(hc:jd cs)(e:cs.length=lv.length)
  (z:Sep (pt a (eD R dx qa 0)::pt qa (aW (dQ at_ bs lv cs))::O) H)
  (q:∀ T S B C L H',Sep (xC T S B C L at_ bs lv cs (pt a (eD R dx qa (8+cs.length))::pt qa (aW (dQ at_ bs lv cs))::O)) H'->Q (sw T) H'):ae tab R k 16 [sw a] H Q E:=by
 obtain⟨hb6,hbf⟩:=hb;delta cS;right;refine⟨_,2,_,_,_,rfl,z.at,rfl,rfl,?_⟩;right;simp only[ro.g_MOST_ROWS];right;refine f6 (i:=at_) ro nofun z rfl nofun h0 h1 λH1 z1=>?_
 right;obtain⟨nm,en,hn⟩:=ro.g_NAMES;simp only[en];rw[<-ro.hK]at hn;right;refine xQ (hn H1) ?_;refine m8 (xs:=vY.map tz) (mo rfl) (λD ys H=>ys=(bs.map sK).take ys.length/\Sep (pt a (eD R dx qa (ys.length+1))::pt qa (aW (dQ at_ bs lv cs))::pt D (ut ys)::O) H) (λD ys H _=>hn H) (λD hD=>⟨rfl,(z1.new (o:=ut []) hD).sub (.cons .k1 (.cons .k1 (.cons .e .refl)))⟩) (λD ys x H hx hI=>?_) (λD ys H hl6 hI=>?_)
 .obtain⟨e1,z2⟩:=hI;rw[gt]at hx;obtain⟨x,hx2,rfl⟩:=li.mp hx;have hlt:ys.length<6:=by
   have h:=(pi.mp hx2).1;simpa[vY] using h
  obtain⟨i,hi⟩:∃ i,bs[ys.length]? =some i:=⟨_,io nofun⟩;right;refine⟨_,2,_,_,_,rfl,z2.at,rfl,rfl,?_⟩;right;refine lU ro nofun z2 (uD hi) (hbf _ _ hi).2 hx2 (hbf _ _ hi).1 λH3 z3=>?_
  refine dw.mk (z3.get .k2) nofun ⟨?_,?_⟩
  .rw[ce,dL,take_add_one,<-e1,gt,hi]
   rfl
  .rw[ce,dL];have z4:Sep (pt D (ut (ys++[sK i]))::pt a (eD R dx qa (ys.length+1+1))::pt qa (aW (dQ at_ bs lv cs))::O) (upd H3 D (ut (ys++[sK i]))):=(z3.pull .k2).set rfl;exact z4.sub (.cons .k1 (.cons .k1 (.cons .e .refl)))
 .obtain⟨e1,z2⟩:=hI;rw[show ys.length=6 from hl6]at e1 z2;rw[take_of_length_le (by rw[bv];omega)]at e1;subst e1;right;refine gp (z2.pull .k2) (z2.get .k2) λB H3 z3=>?_
  have z3:=z3.sub (Γ':=pt a (eD R dx qa (6+1))::pt qa (aW (dQ at_ bs lv cs))::tu B (bs.map sK)::O) (.cons .k2 (.cons .k2 (.cons .e (.drop .refl))));right;refine⟨_,2,_,_,_,rfl,z3.at,rfl,rfl,?_⟩;right;refine nE ro nofun hl1 hl2 hl z3 (vO hb6) λL H4 z4=>?_
  right;refine jI (xs:=lv.map tz) z4.at ?_;refine bR (xs:=lv.map tz) (by rw[bv];omega) (λD ys H=>ys=(cs.map sK).take ys.length/\Sep (pt a (eD R dx qa (8+ys.length))::pt qa (aW (dQ at_ bs lv cs))::pt D (ut ys)::pt L (aW lv)::tu B (bs.map sK)::O) H) (λD ys H h=>ax.of (h.2.get .k3)) (λD hD=>⟨rfl,(z4.new (o:=ut []) hD).sub (.cons .k2 (.cons .k2 (.cons .e .refl)))⟩) (λD ys x H hx hI=>?_) (λD ys H hlc hI=>?_)
  .obtain⟨e1,z5⟩:=hI;rw[gt]at hx;obtain⟨x,hx2,rfl⟩:=li.mp hx;have hlt:ys.length<lv.length:=(pi.mp hx2).1;obtain⟨i,hi⟩:∃ i,cs[ys.length]? =some i:=⟨_,io nofun⟩;obtain⟨c0,c1⟩:=hc i (ci hi);right;refine⟨_,2,_,_,_,rfl,z5.at,rfl,rfl,?_⟩;right;simp only[ro.g_BOUND];right;refine f6 ro nofun z5 (uL hb6 hi) nofun c0 c1 λH6 z6=>?_
   refine dw.mk (z6.get .k2) nofun ⟨?_,?_⟩
   .rw[ce,dL,take_add_one,<-e1,gt,hi]
    rfl
   .rw[ce,dL,<-Nat.add_assoc];have z7:Sep (pt D (ut (ys++[sK i]))::pt a (eD R dx qa (8+ys.length+1))::pt qa (aW (dQ at_ bs lv cs))::pt L (aW lv)::tu B (bs.map sK)::O) (upd H6 D (ut (ys++[sK i]))):=(z6.pull .k2).set rfl;exact z7.sub (.cons .k1 (.cons .k1 (.cons .e .refl)))
  .obtain⟨e1,z5⟩:=hI;rw[bv]at hlc;rw[show ys.length=cs.length by omega]at e1 z5;rw[take_of_length_le (by rw[bv];omega)]at e1;subst e1;right;rename_i S H6 z6 T H7 z7;exact q _ _ _ _ _ _ (z7.sub (.cons .e (.cons .e (.cons (.t .k3) (.cons .k2 (.cons .k2 .refl))))))
abbrev u1 (at_:Int)(bs:List Int)(lv:List Str)(cs:List Int):Str:=Txt.join jm (dQ at_ bs lv cs)
def nv {zs:List Str}(h:∀ z ∈ zs,z.length<=n):(Txt.join jm zs).length<=(n+1)*zs.length:=by
 have e:Txt.join jm zs=Str.join jm zs:=StrLaws.glued_eq_join _ _;rw[e];refine Nat.le_trans (StrLaws.join_length_le _ _) ?_;have h1:(zs.map (·.length)).sum<=n*zs.length:=by
  induction zs with
  |nil=>exact Nat.zero_le _
  |cons a r ih=>
   have:=ih (λz hz=>h z (db _ hz)) (StrLaws.glued_eq_join _ _);have:=h a jp;rw[map_cons,sum_cons,length_cons,Nat.mul_succ]
   omega
 have:jm.length=1:=rfl;rw[this,Nat.succ_mul]
 omega
def c7 (h0:0<=at_)(h1:at_<=24)(hb:dv bs)(hl2:lv.length<=60)(hc:jd cs):∀ z ∈ dQ at_ bs lv cs,z.length<=60:=by
 intro w hw;rcases le.mp hw with rfl|hw
 .have:=(dg (i:=at_) nofun).1;omega
 rcases mem_append.mp hw with hw|hw
 .obtain⟨i,hi,rfl⟩:=List.mem_map.mp hw;obtain⟨j,hj⟩:=List.getElem?_of_mem hi;have:=(dg (hb.2 j i hj).2).1;omega
 rcases le.mp hw with rfl|hw
 .have:(fH lv).length=lv.length:=cQ
  omega
 .obtain⟨i,hi,rfl⟩:=List.mem_map.mp hw;obtain⟨c0,c1⟩:=hc i hi;have:=(dg (i:=i) nofun).1;omega
def tN (ro:Ro K R)(hk:6<=k)(h0:0<=at_)(h1:at_<=24)(hb:dv bs)(hl1:1<=lv.length)(hl2:lv.length<=60)(hl:au lv)(hc:jd cs)(e:cs.length=lv.length)(z:Sep O H)
  (q:∀ T S B C L H',Sep (xC T S B C L at_ bs lv cs O) H'->Q (sw T) H'):ae tab R k 17 [tz (u1 at_ bs lv cs)] H Q E:=by
 have hn:=hV (at_:=at_) (lv:=lv) (cs:=cs) hb.1;delta cL;right;intro x dx' g1 g2 g3;have z1:=(yI (C:=R.cad 2) z g1 g2 g3).sub (Γ':=pt x (wf (R.cad 2) dx' [])::O) (.cons .e (.drop .refl));refine n5 (t:=u1 at_ bs lv cs) (ws:=dQ at_ bs lv cs) nofun ?_ (jo (by unfold dQ;exact λh=>nomatch h) pA) z1 λqa H2 z2=>?_
 .refine Nat.le_trans (nv (c7 h0 h1 hb hl2 hc)) ?_;rw[hn]
  omega
 refine⟨rfl,?_⟩;right;refine ma ro nofun h0 h1 hb hl1 hl2 hl hc e z2 λT S B C L H3 z3=>?_
 right;have z4:=z3.sub (Γ':=pt x (eD R dx' qa (8+cs.length))::pt qa (aW (dQ at_ bs lv cs))::xC T S B C L at_ bs lv cs O) (.cons (.t (.t .k3)) (.cons (.t (.t .k3)) .refl));refine⟨_,2,_,_,_,rfl,z4.at,rfl,rfl,?_⟩;right;refine l9 nofun z4 hn.symm ?_;right;exact q T S B C L _ z4.drop.drop
end
def wD {b:Addr}{xs zs:List V}(s:Sep O H)(r:a7 (pt a (ut xs)) (pt a (ut (xs++zs))) O Γ')(e:H b=some (ut zs))(hl:xs.length+zs.length<=10000)(h:∀ H',Sep Γ' H'->Q ul H'):qb .extend a xs [sw b] H Q:=by unfold qb;exact⟨_,_,rfl,e,hl,h _ (s.put r rfl)⟩
def bX {G:Gx}(h:i.natAbs<=1000000000)(q:Q (tz (nw i)) H):fA G .str [sK i] H Q:=by
 unfold fA;refine .inl ⟨i,rfl,?_,q⟩
 by_cases h0:i.natAbs=0
 .rw[h0];decide
 .exact Nat.lt_trans ((Nat.log2_lt h0).mpr (Nat.lt_of_le_of_lt h (by decide:1000000000<2 ^ 30))) (by decide)
def tB:∀ {zs:List Str},(Str.join Str.empty zs).cps.toList=(zs.map (·.cps.toList)).flatten
 | []=>rfl
 | [x]=>by simp[Str.join]
 |x::y::r=>by
  rw[join_cons,tB (zs:=y::r)];simp[Str.empty]
def iO:Txt.join "" (lv.map λw=>(⟨#[fm w]⟩:Str))=fH lv:=by
 refine PyProof.Rows.ext_toList ?_;have e:Txt.join "" (lv.map λw=>(⟨#[fm w]⟩:Str))=Str.join Str.empty (lv.map λw=>(⟨#[fm w]⟩:Str)):=(StrLaws.glued_eq_join _ _).trans (by rw[show(Str.ofString "")=Str.empty by decide+kernel]);rw[e,tB];show _=((lv.map fm).toArray).toList;rw[List.toList_toArray]
 induction lv with
 |nil=>rfl
 |cons w r ih=>
  have ih:=ih ((StrLaws.glued_eq_join _ _).trans (by rw[show(Str.ofString "")=Str.empty by decide+kernel]));rw[map_cons,map_cons,flatten_cons,ih]
  rfl
def uy (h:bB w=true):fR w.cps.toList 0=some (fm w)/\w.length<=100000:=by
 rcases jR h with rfl|rfl|rfl<;>exact⟨by decide+kernel,by decide+kernel⟩
abbrev pe (ns:List Int):Prop:=∀ i ∈ ns,i.natAbs<=1000000000
def kh {bs:List Int}(h:dv bs):pe bs:=λi hi=>by
 obtain⟨j,hj⟩:=List.getElem?_of_mem hi;exact(h.2 j i hj).2
def nY {cs:List Int}(h:jd cs):pe cs:=λi hi=>by
 obtain⟨h0,h1⟩:=h i hi
 omega
def r8:∀ l:List Str,(∀ z ∈ l,z.length<=60)->(l.map (·.length)).sum<=60*l.length:=λl=>by
 induction l with
 |nil=>exact λ_=>Nat.zero_le _
 |cons a r ih=>
  intro h;have:=ih λz hz=>h z (db _ hz)
  have:=h a jp;rw[map_cons,sum_cons,length_cons]
  omega
section
variable {S B C L:Addr}{lv:List Str}{at_:Int}{bs cs:List Int}
def nQ {Γ1 Γ2 Γ3 Γ4:List ay}(hk:1<=k)(h0:0<=at_)(h1:at_<=24)(hb:dv bs)(hl2:lv.length<=60)(hl:au lv)(hc:jd cs)(e:cs.length=lv.length)(z:Sep O H)
  (pS:af (pt S (v0 [sK at_,sw B,sw C])) O Γ1) (pB:af (tu B (bs.map sK)) O Γ2) (pC:af (pt C (ut (cs.map sK))) O Γ3) (pL:af (pt L (aW lv)) O Γ4)
  (q:∀ H',Sep O H'->Q (tz (u1 at_ bs lv cs)) H'):ae tab R k 18 [sw S,sw L] H Q E:=by
 have hb6:=hb.1;delta cF;have eL:=z.get pL;unfold aW at eL;right;refine⟨_,rfl,?_⟩;left;refine⟨rfl,?_⟩;left;refine jI eL ?_;refine bR (xs:=lv.map tz) (by rw[bv];omega) (λD ys H=>ys=(lv.map λw=>tz ⟨#[fm w]⟩).take ys.length/\Sep (pt D (ut ys)::O) H) (λD ys H h=>ax.of (h.2.get (.t pL))) (λD hD=>⟨rfl,z.new (o:=ut []) hD⟩) (λD ys x H hx hI=>?_) (λD ys H hly hI=>?_)
 .obtain⟨e1,z1⟩:=hI;rw[gt]at hx;obtain⟨w,hw,rfl⟩:=li.mp hx;have hlt:ys.length<lv.length:=(pi.mp hw).1;obtain⟨a1,a2⟩:=uy (hl w (ci hw));right;refine y8 a2 a1 ?_;refine dw.mk z1.at nofun ⟨?_,z1.set rfl⟩;rw[ce,dL,take_add_one,<-e1,gt,hw]
  rfl
 .obtain⟨e1,z1⟩:=hI;rw[hly,bv,take_of_length_le (by rw[bv];omega)]at e1;subst e1;have e2:(lv.map λw=>tz ⟨#[fm w]⟩)=(lv.map λw=>(⟨#[fm w]⟩:Str)).map tz:=by rw[List.map_map];rfl
  right;refine dS (G:=⟨tab,R,ae tab R (k-1),true⟩) (zs:=lv.map λw=>(⟨#[fm w]⟩:Str)) (by rw[z1.at,e2]) ?_ (by decide+kernel) ?_
  .rw[List.map_map,bv];have:(lv.map ((λz:Str=>z.length)∘λw=>(⟨#[fm w]⟩:Str))).sum=lv.length:=by
    have one:∀ l:List Str,(l.map λ_=>1).sum=l.length:=λl=>by
     induction l with
     |nil=>rfl
     |cons a r ih=>rw[map_cons,sum_cons,ih,length_cons];omega
    exact one lv
   omega
  rw[iO];have z2:=z1.drop;clear z1;right;refine bG (z2.get pS) rfl ?_;right;refine bX nofun ?_;right;rename_i P1 H1 z3;refine bG (z3.get (.t pS)) rfl ?_;right;refine y0 (z3.gr (.t pB)) ?_;refine m8 (xs:=bs.map sK) (by rw[bv];omega) (λD ys H=>ys=((bs.map nw).map tz).take ys.length/\Sep (pt D (ut ys)::pt P1 (ut [tz (nw at_)])::O) H) (λD ys H h=>a9.of (h.2.gr (.t (.t pB)))) (λD hD=>⟨rfl,z3.new (o:=ut []) hD⟩) (λD ys x H hx hI=>?_) (λD ys H hly hI=>?_)
  .obtain⟨e1,z4⟩:=hI;rw[gt]at hx;obtain⟨i,hi,rfl⟩:=li.mp hx;have hlt:ys.length<bs.length:=(pi.mp hi).1;right;refine bX (kh hb i (ci hi)) ?_;refine dw.mk z4.at nofun ⟨?_,z4.set rfl⟩;rw[ce,dL,take_add_one,<-e1,gt,gt,hi]
   rfl
  .obtain⟨e1,z4⟩:=hI;rw[hly,bv,take_of_length_le (by rw[bv,bv];omega)]at e1;subst e1;right;refine eU z4 (z4.get .k1) z4.at (by simp[hb6]) (λP2 H2 z5=>?_);have z5:=z5.sub (Γ':=pt P2 (ut ([tz (nw at_)]++(bs.map nw).map tz))::O) (.cons .e (.drop (.drop .refl)));clear z3 z4;right;rename_i P3 H3 z6;refine eU z6 (z6.get .k1) z6.at (by simp[hb6]) (λP4 H4 z7=>?_);have z7:=z7.sub (Γ':=pt P4 (ut (([tz (nw at_)]++(bs.map nw).map tz)++[tz (fH lv)]))::O) (.cons .e (.drop (.drop .refl)));clear z5 z6;right;refine⟨_,_,rfl,z7.at,?_⟩;left;refine⟨rfl,?_⟩;left;refine bG (z7.get (.t pS)) rfl ?_;right;refine jI (z7.get (.t pC)) ?_;refine bR (xs:=cs.map sK) (by rw[bv];omega) (λD ys H=>ys=((cs.map nw).map tz).take ys.length/\Sep (pt D (ut ys)::pt P4 (ut (([tz (nw at_)]++(bs.map nw).map tz)++[tz (fH lv)]))::O) H) (λD ys H h=>ax.of (h.2.get (.t (.t pC)))) (λD hD=>⟨rfl,z7.new (o:=ut []) hD⟩) (λD ys x H hx hI=>?_) (λD ys H hly hI=>?_)
   .obtain⟨e1,z8⟩:=hI;rw[gt]at hx;obtain⟨i,hi,rfl⟩:=li.mp hx;have hlt:ys.length<cs.length:=(pi.mp hi).1;right;refine bX (nY hc i (ci hi)) ?_;refine dw.mk z8.at nofun ⟨?_,z8.set rfl⟩;rw[ce,dL,take_add_one,<-e1,gt,gt,hi]
    rfl
   .obtain⟨e1,z8⟩:=hI;rw[hly,bv,take_of_length_le (by rw[bv,bv];omega)]at e1;subst e1;left;refine⟨_,z8.get .k1,wD z8 .k1 z8.at (by simp[hb6];omega) (λH5 z9=>?_)⟩;have eW:(([tz (nw at_)]++(bs.map nw).map tz)++[tz (fH lv)])++(cs.map nw).map tz=(dQ at_ bs lv cs).map tz:=by simp[dQ]
    rw[eW]at z9;right;refine⟨_,rfl,?_⟩;left;refine dS (G:=⟨tab,R,ae tab R (k-1),true⟩) (zs:=dQ at_ bs lv cs) (z9.get .k1) ?_ (by decide+kernel) ?_
    .have:=r8 _ (c7 (at_:=at_) (bs:=bs) (lv:=lv) (cs:=cs) h0 h1 hb hl2 hc);rw[hV hb6]at this⊢
     omega
    .rw[show(Str.ofString " ")=jm by decide+kernel];right;exact q _ z9.drop.drop
end
def yZ:(10:Int) ^ Int.toNat 8=100000000:=by decide
section
variable {h:Addr}{m:Int}
def jL (hk:3<=k)(s:Sep (hand h m::O) H)(hm:m<=1099510000000)(q:∀ p bs H',dv bs->Sep (pt p (ut (bs.map sK))::hand h (m+30)::O) H'->Q (sw p) H'):ae tab R k 25 [sw h] H Q E:=by
 delta bP;walk_at "gd";rename_i p H1 z1;refine cI (n:=2) (λj U H=>∃ y2 y3,∃ ns:List Int,U=[some (sw h),some (sw p),y2,y3]/\ns.length=j/\pe ns/\Sep (pt p (ut (ns.map sK))::hand h (m+4*(j:Int))::O) H) ?_ ?_ ?_
 .refine⟨_,_,[],rfl,rfl,(λi hi=>nomatch hi),?_⟩;exact(ar (z1.pull .k1) nofun).pull .k1
 .rintro j U H hj ⟨y2,y3,ns,rfl,hl,ha,hs⟩;walk_at "gd";rename_i r1 H2 a0 a1 z2 r2 H3 b0 b1 z3 L5 H4 z4 r H5 c0 c1 z5;rw[yZ]at b1;obtain⟨v,hv,hmem⟩:=a5 (xs:=[sK 0,sK (10 ^ Int.toNat 9),sK (-10 ^ Int.toNat 9),sK r1,sK (-1-r2)]) c0 (by simpa using c1);refine eA (by grind) hv ?_;obtain⟨M,rfl,hM⟩:∃ M:Int,v=sK M/\M.natAbs<=1000000000:=by
   rw[mz]at hmem;simp only[le,not_mem_nil,or_false]at hmem;rcases hmem with rfl|rfl|rfl|rfl|rfl
   .exact⟨_,rfl,by omega⟩
   .exact⟨_,rfl,by omega⟩
   .exact⟨_,rfl,by omega⟩
   .exact⟨_,rfl,by omega⟩
   .exact⟨_,rfl,by omega⟩
  have z6:Sep (pt p (ut (ns.map sK))::hand h (m+4*(j:Int)+1+1+1)::O) H5:=z5.sub (.cons .k2 (.cons .e (.drop .refl)));clear z2 z3 z4 z5 hs z1 hv hmem;right;refine⟨_,_,rfl,z6.at,?_⟩;left;refine⟨_,z6.at,d9 z6 .e (by rw[bv];omega) λH6 z7=>?_⟩;rw[show ns.map sK++[sK M]=(ns++[M]).map sK by simp]at z7;right;refine⟨_,_,ns++[M],rfl,by simp[hl],λi hi=>?_,(ar (z7.pull .k1) (by simp;omega)).pull .k1⟩;rcases mem_append.mp hi with hi|hi
  .exact ha i hi
  .rw[mem_singleton.mp hi];exact hM
 .rintro U H ⟨y2,y3,ns,rfl,hl,ha,hs⟩;refine⟨_,_,rfl,hs.at,?_⟩;walk_at "gd";rename_i r1 H2 a0 a1 z2 L5 H4 z4 r H5 c0 c1 z5;obtain⟨v,hv,hmem⟩:=a5 (xs:=[sK 0,sK (10 ^ Int.toNat 9),sK r1]) c0 (by simpa using c1);refine eA (by grind) hv ?_;obtain⟨l,rfl,l0,l1⟩:∃ M:Int,v=sK M/\0<=M/\M<=1000000000:=by
   rw[mz]at hmem;simp only[le,not_mem_nil,or_false]at hmem;rcases hmem with rfl|rfl|rfl
   .exact⟨_,rfl,by omega,by omega⟩
   .exact⟨_,rfl,by omega,by omega⟩
   .exact⟨_,rfl,by omega,by omega⟩
  have z6:Sep (pt p (ut (ns.map sK))::hand h (m+4*((2:Nat):Int)+1+1)::O) H5:=z5.sub (.cons .k2 (.cons .e (.drop .refl)));clear z2 z4 z5 hs z1 hv hmem;left;refine⟨_,z6.at,d9 z6 .e (by rw[bv];omega) λH6 z7=>?_⟩;right;refine⟨_,_,rfl,z7.at,?_⟩;walk_at "gd";rename_i rw_ H8 d0 d1 z8;refine⟨_,z8.get .k1,d9 z8 .k1 (by simp[hl]) λH9 z9=>?_⟩;right;refine⟨_,_,rfl,z9.get .k1,?_⟩;right;refine gi nofun z9 nofun λs4 H10 s0 s1 z10=>?_
  left;refine⟨_,z10.get .k1,d9 z10 .k1 (by simp[hl]) λH11 z11=>?_⟩;right;refine⟨_,_,rfl,z11.get .k1,?_⟩;walk_at "gd";rename_i t5 H12 e0 e1 z12;refine⟨_,z12.get .k1,d9 z12 .k1 (by simp[hl]) λH13 z13=>?_⟩;right;obtain⟨x0,x1,rfl⟩:∃ x0 x1,ns=[x0,x1]:=by
   match ns,hl with
   | [x0,x1],_=>exact⟨x0,x1,rfl⟩
  have b0:=ha x0 (by simp);have b1:=ha x1 (by simp);refine q p [x0,x1,l,1-2*rw_,s4,t5] _ ⟨rfl,λj i hj=>?_⟩ ((ar z13 nofun).pull .k1);rcases j with _|_|_|_|_|_|j
  .cases hj;exact⟨by simp[bA,gm];omega,b0⟩
  .cases hj;exact⟨by simp[bA,gm];omega,b1⟩
  .cases hj;exact⟨by simp[bA,sX];omega,by omega⟩
  .cases hj;exact⟨by simp[bA,ja];omega,by omega⟩
  .cases hj;exact⟨by simp[bA,sX];omega,by omega⟩
  .cases hj;exact⟨by simp[bA,ja];omega,by omega⟩
  .simp at hj
end
def ot {d:Addr}{ks:List Str}{vs:List V}{kvs:List (Key×V)}(z:Sep O H)(r:a7 (pt d (.dK [])) (pt d (.dK kvs)) O Γ')(e:cq [] (vz ks vs)=kvs)(q:∀ H',Sep Γ' H'->Q (sw d) H'):j8 ks d vs H Q:=by
 obtain⟨Δ,p1,p2⟩:=r.jZ;unfold j8;rw[e];exact⟨z.get p1,q _ (z.put r rfl)⟩
section
variable {N L C:Addr}{lv:List Str}{at_:Int}{bs cs:List Int}
def jB {Γ2 Γ3 Γ4:List ay}(hk:1<=k)(h0:0<=at_)(h1:at_<=24)(hb:dv bs)(hl2:lv.length<=60)(hl:au lv)(hc:jd cs)(e:cs.length=lv.length)(z:Sep O H)
  (pN:af (pt N (ut (bs.map sK))) O Γ2) (pC:af (pt C (ut (cs.map sK))) O Γ3) (pL:af (pt L (aW lv)) O Γ4)
  (q:∀ H',Sep O H'->Q (tz (u1 at_ bs lv cs)) H'):ae tab R k 26 [sK at_,sw N,sw L,sw C] H Q E:=by
 have hb6:=hb.1;delta bM;right;refine bX nofun ?_;right;rename_i P1 H1 z3;refine jI (z3.get (.t pN)) ?_;refine bR (xs:=bs.map sK) (by rw[bv];omega) (λD ys H=>ys=((bs.map nw).map tz).take ys.length/\Sep (pt D (ut ys)::pt P1 (ut [tz (nw at_)])::O) H) (λD ys H h=>ax.of (h.2.get (.t (.t pN)))) (λD hD=>⟨rfl,z3.new (o:=ut []) hD⟩) (λD ys x H hx hI=>?_) (λD ys H hly hI=>?_)
 .obtain⟨e1,z4⟩:=hI;rw[gt]at hx;obtain⟨i,hi,rfl⟩:=li.mp hx;have hlt:ys.length<bs.length:=(pi.mp hi).1;right;refine bX (kh hb i (ci hi)) ?_;refine dw.mk z4.at nofun ⟨?_,z4.set rfl⟩;rw[ce,dL,take_add_one,<-e1,gt,gt,hi]
  rfl
 .obtain⟨e1,z4⟩:=hI;rw[hly,bv,take_of_length_le (by rw[bv,bv];omega)]at e1;subst e1;right;refine eU z4 (z4.get .k1) z4.at (by simp[hb6]) (λP2 H2 z5=>?_);have z5:=z5.sub (Γ':=pt P2 (ut ([tz (nw at_)]++(bs.map nw).map tz))::O) (.cons .e (.drop (.drop .refl)));clear z3 z4;right;refine⟨_,_,rfl,z5.at,?_⟩;left;refine⟨_,rfl,?_⟩;left;refine⟨rfl,?_⟩;left;have eL:=z5.get (.t pL);unfold aW at eL;refine jI eL ?_;refine bR (xs:=lv.map tz) (by rw[bv];omega) (λD ys H=>ys=(lv.map λw=>tz ⟨#[fm w]⟩).take ys.length/\Sep (pt D (ut ys)::pt P2 (ut ([tz (nw at_)]++(bs.map nw).map tz))::O) H) (λD ys H h=>ax.of (h.2.get (.t (.t pL)))) (λD hD=>⟨rfl,z5.new (o:=ut []) hD⟩) (λD ys x H hx hI=>?_) (λD ys H hly hI=>?_)
  .obtain⟨e1,z1⟩:=hI;rw[gt]at hx;obtain⟨w,hw,rfl⟩:=li.mp hx;have hlt:ys.length<lv.length:=(pi.mp hw).1;have hv:dG [((.inr "open":Key),tz "o"),(.inr "look",tz "l"),(.inr "shut",tz "s")] (.inr w)=some (tz ⟨#[fm w]⟩):=by
    rcases jR (hl w (ci hw)) with rfl|rfl|rfl<;>exact(by decide+kernel)
   right;intro p hp;have z2:=z1.new (o:=.dK []) hp;left;refine ot (kvs:=[(.inr "open",tz "o"),(.inr "look",tz "l"),(.inr "shut",tz "s")]) z2 .e rfl (λH3 z3=>?_);right;refine yU (k:=.inr w) z3.at hv ?_;refine dw.mk (z3.get .k1) nofun ⟨?_,z3.drop.set rfl⟩;rw[ce,dL,take_add_one,<-e1,gt,hw]
   rfl
  .obtain⟨e1,z1⟩:=hI;rw[hly,bv,take_of_length_le (by rw[bv];omega)]at e1;subst e1;have e2:(lv.map λw=>tz ⟨#[fm w]⟩)=(lv.map λw=>(⟨#[fm w]⟩:Str)).map tz:=by rw[List.map_map];rfl
   right;refine dS (G:=⟨tab,R,ae tab R (k-1),true⟩) (zs:=lv.map λw=>(⟨#[fm w]⟩:Str)) (by rw[z1.at,e2]) ?_ (by decide+kernel) ?_
   .rw[List.map_map,bv];have one:∀ l:List Str,(l.map λ_=>1).sum=l.length:=λl=>by
     induction l with
     |nil=>rfl
     |cons a r ih=>rw[map_cons,sum_cons,ih,length_cons];omega
    have:=one lv;show(lv.map λ_=>1).sum+lv.length<=1000000
    omega
   rw[iO];have z2:=z1.drop;clear z1 z5;left;refine⟨_,z2.at,d9 z2 .e (by simp[hb6]) (λH5 z7=>?_)⟩;right;refine⟨_,rfl,?_⟩;left;refine⟨rfl,?_⟩;left;refine jI (z7.get (.t pC)) ?_;refine bR (xs:=cs.map sK) (by rw[bv];omega) (λD ys H=>ys=((cs.map nw).map tz).take ys.length/\Sep (pt D (ut ys)::pt P2 (ut (([tz (nw at_)]++(bs.map nw).map tz)++[tz (fH lv)]))::O) H) (λD ys H h=>ax.of (h.2.get (.t (.t pC)))) (λD hD=>⟨rfl,z7.new (o:=ut []) hD⟩) (λD ys x H hx hI=>?_) (λD ys H hly hI=>?_)
   .obtain⟨e1,z8⟩:=hI;rw[gt]at hx;obtain⟨i,hi,rfl⟩:=li.mp hx;have hlt:ys.length<cs.length:=(pi.mp hi).1;right;refine bX (nY hc i (ci hi)) ?_;refine dw.mk z8.at nofun ⟨?_,z8.set rfl⟩;rw[ce,dL,take_add_one,<-e1,gt,gt,hi]
    rfl
   .obtain⟨e1,z8⟩:=hI;rw[hly,bv,take_of_length_le (by rw[bv,bv];omega)]at e1;subst e1;right;refine eU z8 (z8.get .k1) z8.at (by simp[hb6];omega) (λP5 H6 z9=>?_);have eW:(([tz (nw at_)]++(bs.map nw).map tz)++[tz (fH lv)])++(cs.map nw).map tz=(dQ at_ bs lv cs).map tz:=by simp[dQ]
    rw[eW]at z9;right;refine dS (G:=⟨tab,R,ae tab R (k-1),true⟩) (zs:=dQ at_ bs lv cs) z9.at ?_ (by decide+kernel) ?_
    .have:=r8 _ (c7 (at_:=at_) (bs:=bs) (lv:=lv) (cs:=cs) h0 h1 hb hl2 hc);rw[hV hb6]at this⊢
     omega
    .rw[show(Str.ofString " ")=jm by decide+kernel];right;exact q _ z9.drop.drop.drop
end
def gz {b:Addr}{xs ys:List V}(ha:H a=some (v0 xs))(hb:H b=some (v0 ys))(hl:xs.length=ys.length)(h:∀ (j:Nat) (x y:V),xs[j]? =some x->ys[j]? =some y->di K H (n+1) x y true):di K H (n+2) (sw a) (sw b) true:=by
 have z:=di.tt (K:=K) (e:=λ_=>true) (a9.of ha) (a9.of hb) h
 rwa [show((List.range (min xs.length ys.length)).all (λ_=>true)&&xs.length ==ys.length)=true by simp[hl]]at z
def kN {b:Addr}{xs ys:List V}(ha:H a=some (ut xs))(hb:H b=some (ut ys))(hl:xs.length=ys.length)(h:∀ (j:Nat) (x y:V),xs[j]? =some x->ys[j]? =some y->di K H (n+1) x y true):di K H (n+2) (sw a) (sw b) true:=by
 have z:=di.ll (K:=K) (e:=λ_=>true) (ax.of ha) (ax.of hb) hl h
 first
  |rwa [show((List.range xs.length).all (λ_=>true))=true by simp]at z
  |simpa[hl] using z
def dP (h:aw v=true):di K H n v v true:=by
 have z:=di.flat (K:=K) (H:=H) (n:=n) h h
 rwa [fh h]at z
def qd {b:Addr}(ha:H a=some (v0 (ns.map sK)))(hb:H b=some (v0 (ns.map sK))):di K H (n+2) (sw a) (sw b) true:=gz ha hb rfl λj x y e1 e2=>by
 rw[e1]at e2;cases e2;rw[gt]at e1;obtain⟨i,_,rfl⟩:=li.mp e1;exact dP rfl
def qe {b:Addr}(ha:H a=some (ut (ns.map sK)))(hb:H b=some (ut (ns.map sK))):di K H (n+2) (sw a) (sw b) true:=kN ha hb rfl λj x y e1 e2=>by
 rw[e1]at e2;cases e2;rw[gt]at e1;obtain⟨i,_,rfl⟩:=li.mp e1;exact dP rfl
def kJ {b:Addr}{ns:List Str}(ha:H a=some (aW ns))(hb:H b=some (aW ns)):di K H (n+2) (sw a) (sw b) true:=kN ha hb rfl λj x y e1 e2=>by
 rw[e1]at e2;cases e2;rw[gt]at e1;obtain⟨i,_,rfl⟩:=li.mp e1;exact dP rfl
section
variable {T S B C L N L2 C2:Addr}{lv:List Str}{at_:Int}{bs cs:List Int}
def oO {S2 B2:Addr}(h1:H S=some (v0 [sK at_,sw B,sw C]))(h2:H S2=some (v0 [sK at_,sw B2,sw C2]))(ha:H B=some (v0 (bs.map sK)))(hb:H B2=some (v0 (bs.map sK)))(hc:H C=some (ut (cs.map sK)))(hd:H C2=some (ut (cs.map sK))):di K H (n+3) (sw S) (sw S2) true:=
 gz (n:=n+1) h1 h2 rfl λj x y f1 f2=>by
  match j,f1,f2 with
  |0,f1,f2=>cases f1;cases f2;exact dP rfl
  |1,f1,f2=>cases f1;cases f2;exact qd ha hb
  |2,f1,f2=>cases f1;cases f2;exact qe hc hd
def pk {Γ1 Γ2 Γ3 Γ4 Γ5 Γ6 Γ7 Γ8:List ay}(hk:2<=k)(hb6:bs.length=6)(hl2:cs.length<=60)(z:Sep O H)
  (pT:af (pt T (v0 [sw S,sw L])) O Γ1) (pS:af (pt S (v0 [sK at_,sw B,sw C])) O Γ2) (pB:af (tu B (bs.map sK)) O Γ3) (pC:af (pt C (ut (cs.map sK))) O Γ4) (pL:af (pt L (aW lv)) O Γ5)
  (pN:af (pt N (ut (bs.map sK))) O Γ6) (pL2:af (pt L2 (aW lv)) O Γ7) (pC2:af (pt C2 (ut (cs.map sK))) O Γ8)
  (q:∀ H',Sep O H'->Q (.bl true) H'):ae tab R k 27 [sw T,sK at_,sw N,sw L2,sw C2] H Q E:=by
 delta cD;have eT:=z.get pT;have eS:=z.get pS;have eB:=z.gr pB;have eC:=z.get pC;have eL:=z.get pL;right;refine bZ (uu eT) rfl ?_;right;refine gB eT ?_;right;refine bG eT rfl ?_;right;refine bZ (uu eS) rfl ?_;right;refine bG eT rfl ?_;right;refine gB eS ?_;right;refine bG eT rfl ?_;right;refine bG eS rfl ?_;right;refine bZ (uu eB) rfl ?_;right;refine bG eS rfl ?_;right;refine bZ (xh eC) rfl ?_;right;refine bG eT rfl ?_;right;refine bZ (xh eL) rfl ?_;right;refine bG eS rfl ?_;right;rename_i P1 H1 z1;refine bG (z1.get (.t pS)) rfl ?_;right;refine mK z1 (z1.gr (.t pB)) λP2 H2 z2=>?_
 right;refine eU z2 (z2.get .k1) z2.at (by simp[hb6]) (λP3 H3 z3=>?_);right;refine bG (z3.get (.t (.t (.t pS)))) rfl ?_;right;refine eU z3 z3.at (z3.get (.t (.t (.t pC)))) (by simp[hb6];omega) (λP4 H4 z4=>?_);rw[show([sK at_]++bs.map sK)++cs.map sK=(at_::bs++cs).map sK by simp]at z4;have z5:=z4.sub (Γ':=pt P4 (ut ((at_::bs++cs).map sK))::O) (.cons .e (.drop (.drop (.drop .refl))));clear z1 z2 z3 z4;right;refine bR (xs:=(at_::bs++cs).map sK) (by simp[hb6];omega) (λD ys H=>ys=pc ys.length (.bl true)/\Sep (pt D (ut ys)::pt P4 (ut ((at_::bs++cs).map sK))::O) H) (λD ys H h=>ax.of (h.2.get .k1)) (λD hD=>⟨rfl,z5.new (o:=ut []) hD⟩) (λD ys x H hx hI=>?_) (λD ys H hly hI=>?_)
 .obtain⟨e1,z6⟩:=hI;have hyl:ys.length<((at_::bs++cs).map sK).length:=(pi.mp hx).1;have hyl:ys.length<100:=by simp[hb6]at hyl;omega
  rw[gt]at hx;obtain⟨i,_,rfl⟩:=li.mp hx;right;refine nV (t:="int") nofun rfl ?_;refine dw.mk z6.at nofun ⟨?_,z6.set rfl⟩;rw[ce,dL,List.replicate_succ',<-e1]
  rfl
 .obtain⟨e1,z6⟩:=hI;left;refine jV (bs:=pc ys.length true) (K:=R.K) rfl (by rw[z6.at,e1,map_replicate,length_replicate]) ?_;rw[show(pc ys.length true).all id=true by rw[all_eq_true];intro x hx;rw[List.eq_of_mem_replicate hx];rfl];have z7:=z6.drop.drop;clear z5 z6;right;refine gp z7 (z7.get pN) λB2 H8 z8=>?_
  right;rename_i S2 H9 z9 T2 Ha za;refine uY (n:=4) (c:=true) (gz (za.get (.t (.t (.t pT)))) za.at rfl λj x y f1 f2=>?_) (by decide) (za.pull (.t (.t (.t pT)))).ne ?_
  .match j,f1,f2 with
   |0,f1,f2=>cases f1;cases f2;exact oO (n:=0) (za.get (.t (.t (.t pS)))) (za.get .k1) (za.gr (.t (.t (.t pB)))) (za.gr (.t (.t .e))) (za.get (.t (.t (.t pC)))) (za.get (.t (.t (.t pC2))))
   |1,f1,f2=>cases f1;cases f2;exact kJ (n:=1) (za.get (.t (.t (.t pL)))) (za.get (.t (.t (.t pL2))))
  right;exact q _ za.drop.drop.drop
end
def uX {r:Int}(h0:0<=r)(h1:r<3):∃ wd:Str,fR [tz "open",tz "look",tz "shut"] r=some (tz wd)/\bB wd=true:=by
 rcases(by omega:r=0\/r=1\/r=2) with rfl|rfl|rfl
 .exact⟨"open",rfl,by decide+kernel⟩
 .exact⟨"look",rfl,by decide+kernel⟩
 .exact⟨"shut",rfl,by decide+kernel⟩
abbrev mj:fv->fv
 | .cons (.for _ _ b) _=>b
 |_=>.nil
section
variable {h N L C SS BB CC LL:Addr}{lv:List Str}{at_ m:Int}{bs cs:List Int}{D:Ends}{E:St->XK}{sc tx:V}{u2 u10 u11:Option V}
abbrev sC (h N L C SS BB CC LL:Addr)(at_ m:Int)(bs:List Int)(lv:List Str)(cs:List Int):List ay:=
 [pt N (ut (bs.map sK)),pt L (aW lv),pt C (ut (cs.map sK)),pt SS (v0 [sK at_,sw BB,sw CC]),tu BB (bs.map sK),pt CC (ut (cs.map sK)),pt LL (aW lv),hand h m]
def vP (ro:Ro K R)(hk:12<=k)(h0:0<=at_)(h1:at_<=24)(hb:dv bs)(hl1:1<=lv.length)(hl2:lv.length<=60)(hl:au lv)(hc:jd cs)(e:cs.length=lv.length)(z:Sep (sC h N L C SS BB CC LL at_ m bs lv cs) H)
  (q:∀ u H',Sep (sC h N L C SS BB CC LL at_ m bs lv cs) H'->D.nx [some sc,some (sw h),u2,some (sw C),some (sw L),some (sw N),some (sK at_),some (tz (u1 at_ bs lv cs)),some (sw SS),some (sw LL),u10,u] H'):
  wB (mj (cV 8 (mj (cV 1 d5.body)))) ⟨tab,R,ae tab R (k-1),true⟩ D E [some sc,some (sw h),u2,some (sw C),some (sw L),some (sw N),some (sK at_),some (tz (u1 at_ bs lv cs)),some (sw SS),some (sw LL),u10,u11] H:=by
 right;refine nQ nofun h0 h1 hb hl2 hl hc e z .k3 (.t .k3) (.t (.t .k3)) (.t (.t (.t .k3))) λH1 z1=>?_
 clear z;right;refine aR (fh rfl) ?_;right;have z2:Sep (pt N (ut (bs.map sK))::(sC h N L C SS BB CC LL at_ m bs lv cs).tail) H1:=z1;refine gp z2 z2.at λB2 H2 z3=>?_
 right;rename_i S2 H3 z4;refine pw (n:=3) (c:=true) (oO (n:=0) (z4.get (.t (.t .k3))) z4.at (z4.gr (.t (.t (.t .k3)))) (z4.gr .k1) (z4.get (.t (.t (.t (.t .k3))))) (z4.get (.t (.t .k2)))) (by decide) ((z4.pull (.t (.t .k3))).ne) ?_;right;have z5:Sep (sC h N L C SS BB CC LL at_ m bs lv cs) H3:=z4.drop.drop;clear z1 z2 z3 z4;refine pw (n:=2) (c:=true) (kJ (n:=0) (z5.get (.t (.t (.t .k3)))) (z5.get .k1)) (by decide) (((z5.pull .k1).pull (.t (.t (.t .k3)))).ne) ?_;right;refine tN ro nofun h0 h1 hb hl1 hl2 hl hc e z5 λT S B C2 L2 H4 z6=>?_
 right;refine pk (O:=xC T S B C2 L2 at_ bs lv cs (sC h N L C SS BB CC LL at_ m bs lv cs)) nofun hb.1 nofun z6 .e .k1 .k2 .k3 (.t .k3) (.t (.t .k3)) (.t (.t (.t .k3))) (.t (.t (.t (.t .k3)))) λH5 z7=>?_
 clear z6 z5;right;have eT:H5 T=some (v0 [sw S,sw L2]):=z7.at;refine bG eT rfl ?_;right;refine bG eT rfl ?_;right;refine nQ (O:=xC T S B C2 L2 at_ bs lv cs (sC h N L C SS BB CC LL at_ m bs lv cs)) nofun h0 h1 hb hl2 hl hc e z7 .k1 .k2 .k3 (.t .k3) λH6 z8=>?_
 clear z7 eT;right;refine aR (fh rfl) ?_;right;have eT:H6 T=some (v0 [sw S,sw L2]):=z8.at;have eS:H6 S=some (v0 [sK at_,sw B,sw C2]):=z8.get .k1;refine bG eT rfl ?_;right;refine bG eS rfl ?_;right;refine⟨_,_,rfl,z8.get .k3,?_⟩;left;refine⟨_,z8.get .k3,wa z8 .k3 λH7 z9=>?_⟩;right;have p9:=z9.get (.t .k3);unfold aW at p9;refine⟨_,_,rfl,p9,?_⟩;left;refine⟨_,p9,d9 (z9.pull (A:=pt L2 (ut (lv.map tz))) (.t .k3)) .e (by rw[bv];omega) λH8 za=>?_⟩;right;exact q _ _ za.drop.drop.drop.drop.drop
end
section
variable {h C L:Addr}{lv:List Str}{m:Int}{cs:List Int}{D:Ends}{E:St->XK}{sc:V}{u2 u5 u6 u7 u8 u9 u10 u11:Option V}
def uk (ro:Ro K R)(hk:12<=k)(hm:m<=1000000)(hl1:1<=lv.length)(hl2:lv.length<=60)(hl:au lv)(hc:jd cs)(e:cs.length=lv.length)(z:Sep [hand h m,pt L (aW lv),pt C (ut (cs.map sK))] H)
  (q:∀ v3 v4 v5 v6 v7 v8 v9 v10 v11 H',Sep [hand h (m+40)] H'->D.nx [some sc,some (sw h),u2,v3,v4,v5,v6,v7,v8,v9,v10,v11] H'):
  wB (cV 3 (mj (cV 1 d5.body))) ⟨tab,R,ae tab R (k-1),true⟩ D E [some sc,some (sw h),u2,some (sw C),some (sw L),u5,u6,u7,u8,u9,u10,u11] H:=by
 right;refine jL (k:=k-1) nofun z nofun λN bs H1 hb z1=>?_
 clear z;walk_at "gd";rename_i r1 H2 a0 a1 z2 p2 H3 z3 r2 H4 b0 b1 z4;obtain⟨v,ev,at_,rfl,h0,h1⟩:=sj (xs:=[sK 0,sK 24,sK r1]) (P:=inR 0 24) (r:=r2) b0 (by simpa using b1) (zY (.mk nofun nofun) (.mk nofun nofun) (.mk nofun nofun));refine eA (z4.get .k1) ev ?_;have z5:Sep (pt N (ut (bs.map sK))::pt L (aW lv)::pt C (ut (cs.map sK))::hand h (m+40)::[]) H4:=(ar (z4.sub (Γ':=hand h (m+30+1+1)::pt N (ut (bs.map sK))::pt L (aW lv)::pt C (ut (cs.map sK))::[]) (.cons .e (.drop .refl))) nofun).sub (.cons .k1 (.cons .k1 (.cons .k1 (.cons .e .refl))));clear z1 z2 z3 z4;right;refine jB nofun h0 h1 hb hl2 hl hc e z5 .e .k2 .k1 λH5 z6=>?_
 clear z5;right;refine gp z6 z6.at λBB H6 z7=>?_
 right;rename_i CC H7 z8 SS H8 z9;have eL:=z9.get (a:=L) (o:=aW lv) (.t .k3);unfold aW at eL;refine j3 z9 eL λLL H9 za=>?_
 have zb:Sep (sC h N L C SS BB CC LL at_ (m+40) bs lv cs) H9:=za.sub (.cons (.t .k3) (.cons (.t .k3) (.cons (.t .k3) (.cons .k1 (.cons .k2 (.cons .k1 (.cons .e .refl)))))));clear z6 z7 z8 z9 za;right;refine cI (n:=2) (λj U H=>∃ v10 v11,U=[some sc,some (sw h),u2,some (sw C),some (sw L),some (sw N),some (sK at_),some (tz (u1 at_ bs lv cs)),some (sw SS),some (sw LL),v10,v11]/\Sep (sC h N L C SS BB CC LL at_ (m+40) bs lv cs) H) ?_ ?_ ?_
 .exact⟨_,_,rfl,zb⟩
 .rintro j U H hj ⟨v10,v11,rfl,zc⟩;exact vP ro hk h0 h1 hb hl1 hl2 hl hc e zc λu H' zd=>⟨_,_,rfl,zd⟩
 .rintro U H ⟨v10,v11,rfl,zc⟩;exact q _ _ _ _ _ _ _ _ _ _ (zc.drop.drop.drop.drop.drop.drop.drop)
end
section
variable {h:Addr}{D:Ends}{E:St->XK}{sc:V}{u3 u4 u5 u6 u7 u8 u9 u10 u11:Option V}
def uO (ro:Ro K R)(hk:12<=k)(hj:j<6)(z:Sep [hand h (600*(j:Int))] H)
  (q:∀ v2 v3 v4 v5 v6 v7 v8 v9 v10 v11 H',Sep [hand h (600*((j+1:Nat):Int))] H'->D.nx [some sc,some (sw h),v2,v3,v4,v5,v6,v7,v8,v9,v10,v11] H'):
  wB (mj (cV 1 d5.body)) ⟨tab,R,ae tab R (k-1),true⟩ D E [some sc,some (sw h),some (sK (0+(j:Int))),u3,u4,u5,u6,u7,u8,u9,u10,u11] H:=by
 walk_at "gd";rename_i p2 H2 z2 r H3 a0 a1 z3;obtain⟨v,ev,M,rfl,M0,M1⟩:=sj (xs:=[sK 4,sK 60]) (P:=inR 1 60) (r:=r) a0 (by simpa using a1) (zL (.mk (by decide) (by decide)) (.mk (by decide) (by decide)));refine eA (by grind) ev ?_;walk_at "gd";refine rR (k:=k-1) (O:=[]) (m:=600*(j:Int)+1) nofun (ar (z3.sub (Γ':=[hand h (600*(j:Int)+1)]) (.cons .e (.drop .refl))) nofun) nofun M0 M1 (λC cs H4 l0 l1 hc z4=>?_);clear z2 z3 z;right;rw[bv];refine lJ (k:=k-1) (O:=[pt C (ut (cs.map sK))]) (m:=600*(j:Int)+1+300) nofun nofun l0 nofun (z4.pull .k1) (λL lv H5 hl1 hl z5=>?_);clear z4;walk_at "gd";rename_i rd H6 d0 d1 z6;have fin:∀ {LL:Addr}{ws:List Str}{H:Hp},ws.length=cs.length->au ws->Sep [hand h (600*(j:Int)+500),pt LL (aW ws),pt C (ut (cs.map sK))] H->wB (cV 3 (mj (cV 1 d5.body))) ⟨tab,R,ae tab R (k-1),true⟩ D E [some sc,some (sw h),some (sK (0+(j:Int))),some (sw C),some (sw LL),u5,u6,u7,u8,u9,u10,u11] H:=λ{LL ws H} e1 hw z=>uk (k:=k) ro hk nofun nofun nofun hw hc nofun z λv3 v4 v5 v6 v7 v8 v9 v10 v11 H' z'=>q _ _ _ _ _ _ _ _ _ _ _ (ar z' nofun)
 refine dB (λg=>?_) (λg=>?_)
 .right;refine bR (xs:=cs.map sK) (by rw[bv];omega) (λD ys H=>(∃ ws:List Str,ys=ws.map tz/\au ws)/\Sep (pt D (ut ys)::hand h (600*(j:Int)+400+(ys.length:Int))::[pt L (ut (lv.map tz)),pt C (ut (cs.map sK))]) H) (λD ys H h=>ax.of (h.2.get .k3)) (λD hD=>⟨⟨[],rfl,λw hw=>nomatch hw⟩,?_⟩) (λD ys x H hx hI=>?_) (λD ys H hly hI=>?_)
  .have z7:=z6.new (o:=ut []) hD;exact(ar (z7.pull .k1) (by simp;omega)).pull .k1
  .obtain⟨⟨ws,rfl,hw⟩,z7⟩:=hI;have hlt:=(pi.mp hx).1;rw[bv,bv]at hlt;have z8:=(ar (n:=600*(j:Int)+400+(ws.length:Int)) (z7.pull .k1) (by rw[bv];omega)).pull .k1;clear z7;walk_at "gd";rename_i P Ha za r2 Hb b0 b1 zb;obtain⟨wd,e1,hwd⟩:=uX b0 b1;refine eA (by grind) e1 ?_;have zc:Sep (pt D (ut (ws.map tz))::hand h (600*(j:Int)+400+(ws.length:Int)+1)::[pt L (ut (lv.map tz)),pt C (ut (cs.map sK))]) Hb:=zb.sub (.cons .k2 (.cons .e (.drop .refl)));refine dw.mk zc.at (by rw[bv];omega) ⟨⟨ws++[wd],by rw[dl];rfl,λw hm=>?_⟩,?_⟩
   .rcases mem_append.mp hm with hm|hm
    .exact hw w hm
    .rw[mem_singleton.mp hm];exact hwd
   .have zd:=zc.set (o':=ut (ws.map tz++[tz wd])) rfl;exact(ar (n:=600*(j:Int)+400+(((ws.map tz++[tz wd]).length:Nat):Int)) (zd.pull .k1) (by rw[ce,bv,dL];omega)).pull .k1
  .obtain⟨⟨ws,rfl,hw⟩,z7⟩:=hI;rw[bv,bv]at hly;exact fin hly hw ((ar (z7.pull .k1) (by rw[bv];omega)).sub (.cons .e (.cons .e (.drop .refl))))
 .exact fin nofun hl (ar z6 nofun)
end
def tE (ro:Ro K R)(hk:12<=k):∀ vs H Q E,dA K 63 vs H Q E->ae tab R k 28 vs H Q E:=by
 rintro vs H Q E ⟨a,is,rfl,hS,h63,hQ⟩;delta d5;right;rw[<-ro.hK]at hS;refine vd nofun Sep.nil hS h63 (λh H1 z1=>?_);right;refine cI (n:=6) (λj U H=>∃ u2 u3 u4 u5 u6 u7 u8 u9 u10 u11,U=[some (sw a),some (sw h),u2,u3,u4,u5,u6,u7,u8,u9,u10,u11]/\Sep [hand h (600*(j:Int))] H) ?_ ?_ ?_
 .exact⟨_,_,_,_,_,_,_,_,_,_,rfl,z1⟩
 .rintro j U H hj ⟨u2,u3,u4,u5,u6,u7,u8,u9,u10,u11,rfl,z⟩;exact uO (k:=k) ro hk hj z λv2 v3 v4 v5 v6 v7 v8 v9 v10 v11 H' z'=>⟨_,_,_,_,_,_,_,_,_,_,rfl,z'⟩
 .rintro U H ⟨u2,u3,u4,u5,u6,u7,u8,u9,u10,u11,rfl,z⟩;right;exact hQ _
def mD (ro:Ro K R):∀ vs H Q E,dA K 63 vs H Q E->ae tab R 12 28 vs H Q E:=tE ro (nl _)
end
def walk {l:W.OpenLaw}{q:Program}{loose:List Str}{XP:(Str->Option Value)->Heap->Prop}{YP:World->Heap->Prop}{d:DefRec}{K:Params->W.Frag}(hn:l.most=some 63)(hdf:d.params.defaults=[])
    (hY:∀ (w:World) (h:Heap),YP w h->(K w.params).In h)
    (F:∀ (w:World) (mg:AF) (fa:Addr) (h:Heap),(K w.params).In h->h.Ns mainGlobals mg->mg d.name=some (.ref fa)->
      ∃ fd:FuncData,(∀ (s:Shared) (u:Value),BindsTo s fd ⟨[u],[]⟩ [("_law_script",u)])/\∀ base:Heap,(K w.params).In base->base.Ns mainGlobals mg->ba l.prog w (K w.params) mg base (nK l.prog w) 24 fa fd ["_law_script"] (dA (K w.params) 63)):
    W.WalkO q loose XP YP l.row.toRowW d [] (λf vs=>PySem.call f vs):=
  L2.rM (n:=63) (k:=24) (x:="_law_script") (CX:=λw=>nK l.prog w) (sp:=λw=>dA (K w.params) 63) hn (by decide) hdf ⟨rfl,by decide,by decide⟩ hY F (λ_ _ a ns hl _ hS=>⟨a,ns,rfl,hS,hl,λ_=>rfl⟩) λ_ _ _ _ _ z=>oa z
abbrev zl:List (Str×V):=[("BOUND",.int 1000000000),("MOST_ROWS",.int 24),("MOST_CELLS",.int 60),("MOST_FIGURES",.int 10),("FIGURES",.str "0123456789"),("LEAVE_OF",.ref 83),("NAMES",.ref 68)]
def zN (p:Params):L3.qz (K0 p) tab yk zG zl=true:=by kernel_rfl
def Aa (p:Params):L3.fw (K0 p) tab yk 0 tab.fns=true:=by kernel_rfl
end My
open PySem PySem.W PyProof.Rows
set_option maxRecDepth 100000 in
set_option maxHeartbeats 0 in
theorem PySem.Challenge.cw_haulbell_k93_states_written_holds : PySem.Challenge.rw_haulbell_k93_states_written.Holds := by
  refine holds_law My.wJ fun said=>?_
  refine W.holds_open (loose:=My.nB) (N:=3804)
    (q:=My.iW My.pr)
    (Yf:=fun s=>My.x8.map s.heap.get?)
    (Ya:=fun w=>(My.K0 w.params).map fun p=>some p.2)
    (Xt:=fun s=>xlAt (My.iW My.pr) [] s&&recOk PySem.Challenge.rw_haulbell_k93_states_written.row.records s)
    (XP:=XL (My.iW My.pr) [])
    (YP:=InK My.K0) My.xa
    (InK.of (as:=My.x8) fun _=>by kernel_rfl) InK.keeps
    (fun s e=>xl_of s (Bool.and_eq_true_iff.mp e).1)
    XL.keeps (by rfl) (by rfl) (by rfl)
    (fun s e=>recFacts_of (Bool.and_eq_true_iff.mp e).2)
    (by rfl) (by assumption) (by decide+kernel)
    ⟨rfl,rfl,rfl,rfl,rfl,by decide+kernel⟩ ?hw ?hc
  case hw=>w_witness2
  refine My.walk (l:=PySem.Challenge.rw_haulbell_k93_states_written) rfl rfl (fun w h Y=>Y) ?F
  case F=>
    intro w mg fa h KX G hmg;exact L3.qL KX G hmg (T:=My.tab) (fs:=My.yk) (cs:=My.zG) (gs:=My.zl) (d:=My.d5) (fl:=28) (k:=12) (My.zN _) (My.Aa _) (by kernel_rfl) rfl rfl rfl (My.mD ⟨rfl,by kernel_rfl,by kernel_rfl,by kernel_rfl,by kernel_rfl,by kernel_rfl,⟨83,by kernel_rfl,(by unfold L2.qq;kernel_rfl)⟩,⟨68,by kernel_rfl,L3.uM (by kernel_rfl)⟩⟩)
