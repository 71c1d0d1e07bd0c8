import PyProof.Rows.All
import Wide.All
import OpenK.AllK
import Wide.FinOn
import PySem.Challenge.RW_haulbell_k55_logs_let_by
import Lean
import PyProof.EqAt
import PyProof.EqKinds
import PyProof.TupleCall
import PyProof.EnumStmt
import PyProof.NeKinds
import PyProof.ExcAttrAll.ValueError
import PyProof.ExcInit
import PyProof.StationsW
import PyProof.NsDelKeeps
import PyProof.InstStoreFacts
import PyProof.ZipIter
import PyProof.IsiBase
import PyProof.AttrMiss
import KE.KDictOf
import KE.KDictList
import PyProof.InstEq
import PyProof.Rows.Range3
import PyProof.StrOps2
import KE.LcSums
open PySem.W renaming behindTheImports→ac
open PySem renaming wpAny_bind→ad,wpAny_pure→am,wpAny_field→ap,wpAny_holding→bd,wpAny_truthy_bool→bi,starEach→bm,sizeLine→bn,wpAny_Call_Name_kw→bv
open List renaming length_map→ce,length_append→ci,mem_of_getElem?→cr,length_take→db,mem_cons_of_mem→dl,map_append→dL,length_singleton→f8,size_toArray→ge,mem_append_right→ii,getElem?_map→im,length_drop→io,append_assoc→jp,getElem?_eq_getElem→li,mem_cons_self→lw,mem_cons→mo
open Bool renaming and_eq_true→nb
open Option renaming map_eq_some_iff→nl
open Nat renaming lt_of_lt_of_le→nw,le_of_ble_eq_true→ol,ne_of_lt→pc,le_refl→pi
open Int renaming toNat_natCast→re
open List renaming replicate→sn,getElem?_eq_some_iff→sw
open PySem.Heap renaming get?_push_of_some→sK,lt_size→tz,get?_push_size→ul
set_option linter.all false
set_option maxRecDepth 100000
set_option Elab.async false
set_option compiler.extract_closed false
theorem My.kleA {a b k:Nat}(h:a<=k)(e:Nat.ble (b+1) a=true):b<=k-1:=Nat.le_sub_one_of_lt (nw (ol e) h)
theorem My.kleB {a b k:Nat}(h:a<=k)(e:Nat.ble b a=true):b<=k:=Nat.le_trans (ol e) h
set_option hygiene false
local macro_rules| `(tactic|sleep $n:num)=>`(tactic|((conv at h=>lhs;whnf);iterate $n (split at h;rotate_left;cases h)))
set_option hygiene true
local macro_rules|`(command|abbrev $i:declId $s:optDeclSig $v:declVal)=>`(command|noncomputable def $i:declId $s:optDeclSig $v:declVal)
local macro_rules|`(command|def $i:declId $b:bracketedBinder* :$t $v:declVal)=>`(command|theorem $i:declId $b:bracketedBinder* :$t $v:declVal)
local macro_rules|`(nofun)=>`(by first|exact My.kleA (by assumption) (by rfl)|exact My.kleB (by assumption) (by rfl)|lia|omega)
local macro_rules|`(tactic|omega)=>`(tactic|lia)
noncomputable abbrev My.pr:PySem.Program:=PySem.Challenge.rw_haulbell_k55_logs_let_by.row.prog
open PySem PySem.W in
set_option maxHeartbeats 0 in
def My.Gz:PySem.Challenge.rw_haulbell_k55_logs_let_by.wellSaid=true:=by
  rewrite [Fast.te9446332074065402090]
  kernel_rfl
namespace L2
open PySem PySem.Spec
abbrev inClass (s:Stmt)(j:Nat):Stmt:=match s with
  | .ClassDef _ _ _ body _ _ _ _ _ _ _=>body.getD j (.Pass ⟨0,0,0,0⟩)
  |_=>.Pass ⟨0,0,0,0⟩
abbrev ua (s:Stmt):Arguments:=match s with
  | .FunctionDef _ a _ _ _ _ _ _ _ _=>a
  |_=>{ posonlyargs:=[],args:=[],vararg:=none,kwonlyargs:=[],kw_defaults:=[],kwarg:=none,defaults:=[] }
abbrev tI (s:Stmt):List Stmt:=match s with
  | .FunctionDef _ _ b _ _ _ _ _ _ _=>b
  |_=>[]
abbrev pC (s:Stmt):Scope:=match s with
  | .FunctionDef _ _ _ _ _ _ sc _ _ _=>sc
  |_=>{ kind:=.function,names:=[],isGenerator:=false,isCoroutine:=false }
end L2
namespace My
open PySem L2 PySem.W
abbrev top (i:Nat):Stmt:=PySem.Challenge.pw_haulbell_k55_logs_let_by.main.body.getD i (.Pass ⟨0,0,0,0⟩)
abbrev tq (i j:Nat):Stmt:=inClass (top i) j
/-- the top's run on a tree -/
abbrev lE (tb:String->Option Builtin)(p:Program)(w:World)(m:Nat)(ann:Option Value):Nat->SharedT->Thread->Option SharedT
  |0,_,_=>none
  |n+1,s,t=>match through t with
    |true=>some s
    |false=>match stepOk m ann t with
      |false=>none
      |true=>match stepT (denote tb) p w s t with
        |some r=>lE tb p w m ann n r.1 r.2
        |none=>none
def tU {tb:String->Option Builtin}{p:Program}{w:World}{m:Nat}{ann:Option Value}:∀ {n:Nat}{s s':SharedT}{t:Thread},lE tb p w m ann n s t=some s'->topRun tb p w m ann n s.abs t=some s'.abs
  |0,_,_,_,h=>by cases h
  |n+1,s,s',t,h=>by
    unfold lE at h;unfold topRun;cases a:through t
    · rw[a]at h;dsimp only at h⊢
      cases b:stepOk m ann t
      · rw[b]at h;cases h
      · rw[b]at h;dsimp only at h⊢
        cases c:stepT (denote tb) p w s t with
        |none=>rw[c]at h;cases h
        |some r=>rw[c]at h;rw[stepT_spec c];exact tU h
    · rw[a]at h;cases h;rfl
abbrev FE:Nat->BT->List Obj->BT
  |_,t,[]=>t
  |n,t,o::os=>FE (n+1) (t.ins n o) os
abbrev zT (P:Params):BT:=FE 0 .nil (boot_heap P).objs.toList
abbrev Je (P:Params)(os:OsState):SharedT:=⟨zT P,11,(boot_heap P).life,Array.mk [],boot_drawn,boot_toks,os⟩
def vb {p q:Program}{loose:List Str}{Xt:Shared->Bool}{α:Type}{Yf:Shared->α}{Ya:World->α}{N:Nat}(e:opening p=plainProg p.main.scope.names)(hN:Nat.ble 600 N=true)(f:∀ s,fenceModules? p s=some s)
    (h0:∀ P,absHeap (zT P) 11 (boot_heap P).life=boot_heap P) (h1:∀ P,((boot_heap P).isNs mainGlobals,(boot_heap P).objs.size,(boot_heap P).nsMap mainGlobals "__annotations__")=(true,11,some (.ref 6)))
    (run:∀ (w:World) (os:OsState),(lE treeTable p w 11 (some (.ref 6)) N (Je w.params os) (topStub p)).map (λs=>(staticsOk (importedModules p.main.body) (boot_heap w.params) s.abs.heap&&namesBound p s.abs.heap&&gensDone s.abs&&laidKept (boot_heap w.params) s.abs.heap,
      openSeen q loose (importedModules p.main.body) Xt true s.abs,Yf s.abs))=some (true,openGood q loose,Ya w)):LeftO p q loose Xt Yf Ya N:=λw=>by
  obtain⟨⟨hp,gs,d,k,os⟩,e1,e2⟩:=nl.mp (boot_open e hN f w);obtain⟨rfl,rfl,rfl,rfl⟩:hp=boot_heap w.params/\gs=Array.mk []/\d=boot_drawn/\k=boot_toks:=by simpa using e2
  obtain⟨z1,z2,z3⟩:_/\_/\_:=by simpa only [Prod.mk.injEq] using h1 w.params
  obtain⟨s,r,l⟩:=nl.mp (run w os);obtain⟨l1,l2,l3⟩:_/\_/\_:=by simpa only [Prod.mk.injEq] using l
  have r1:=tU r;have a0:(Je w.params os).abs=⟨boot_heap w.params,Array.mk [],boot_drawn,boot_toks,os⟩:=by
    show(⟨absHeap (zT w.params) 11 (boot_heap w.params).life,Array.mk [],boot_drawn,boot_toks,os⟩:Shared)=_;rw[h0]
  rw[a0]at r1;unfold openEnds;rw[e1];have t:topFrom treeTable p w N ⟨boot_heap w.params,Array.mk [],boot_drawn,boot_toks,os⟩=some s.abs:=by
    unfold topFrom;dsimp only;rw[z1,z2,z3,r1];show(match staticsOk (importedModules p.main.body) (boot_heap w.params) s.abs.heap&&namesBound p s.abs.heap&&gensDone s.abs&&laidKept (boot_heap w.params) s.abs.heap with|true=>some s.abs|false=>none)=some s.abs;rw[l1]
  show(topFrom treeTable p w N _).map _=_;rw[t];exact congrArg some (Prod.ext l2 l3)
abbrev IQ:List Addr:=2::3::30::31::47::48::50::51::66::67::69::70::85::86::88::89::104::105::107::108::123::124::126::127::142::143::145::146::161::162::164::165::173::174::180::181::182::188::189::195::196::202::203::211::217::218::224::225::231::232::236::237::243::244::246::247::257::258::264::265::278::279::285::286::292::293::313::314::320::321::327::328::341::342::344::345::355::356::362::363::372::373::390::391::397::398::404::405::407::408::423::424::430::431::437::438::440::441::456::457::463::464::470::471::473::474::489::490::496::497::503::504::506::507::522::523::529::530::536::537::539::540::548::549::555::556::562::563::571::577::578::584::585::591::592::598::599::605::606::619::620::638::639::645::646::648::649::666::667::673::674::680::681::687::688::690::691::703::709::710::716::717::721::722::742::743::745::746::754::755::761::762::768::769::777::783::784::790::791::797::798::800::801::809::810::816::817::823::824::830::831::837::838::844::845::858::859::865::866::868::869::884::885::891::892::894::895::910::911::917::918::920::921::936::937::943::944::946::947::962::963::969::970::972::973::988::989::995::996::998::999::1007::1008::1014::1015::1021::1022::1026::1027::1033::1034::1047::1048::1054::1055::1061::1062::1068::1069::1075::1076::1082::1083::1089::1090::1096::1097::1103::1104::1110::1111::1117::1118::1124::1125::1129::1130::1134::1135::1141::1142::1146::1147::1151::1152::[]
abbrev JO:List Addr:=48::67::86::105::124::143::162::174::181::189::196::203::218::225::232::237::244::258::265::279::286::293::314::321::328::342::356::363::391::398::405::424::431::438::457::464::471::490::497::504::523::530::537::549::556::563::578::585::592::599::606::620::639::646::667::674::681::688::710::717::722::743::755::762::769::784::791::798::810::817::824::831::838::845::859::866::885::892::911::918::937::944::963::970::989::996::1008::1015::1022::1027::1034::1048::1055::1062::1069::1076::1083::1090::1097::1104::1111::1118::1125::1130::1135::1142::1147::1152::[]
abbrev KJ:List Addr:=[31,51,70,89,108,127,146,165,247,345,373,408,441,474,507,540,649,691,746,801,869,895,921,947,973,999]
abbrev runK (tb:String->Option Builtin)(p:Program)(w:World)(m:Nat)(ann:Option Value):Nat->SharedT->Thread->Option (SharedT×Thread)
  |0,s,t=>some (s,t)
  |n+1,s,t=>match through t with
    |true=>none
    |false=>match stepOk m ann t with
      |false=>none
      |true=>match stepT (denote tb) p w s t with
        |some r=>runK tb p w m ann n r.1 r.2
        |none=>none
def cg {tb:String->Option Builtin}{p:Program}{w:World}{m:Nat}{ann:Option Value}{k:Nat}:∀ {n:Nat}{s:SharedT}{t:Thread}{r:SharedT×Thread},runK tb p w m ann n s t=some r->lE tb p w m ann (n+k) s t=lE tb p w m ann k r.1 r.2
  |0,s,t,r,h=>by
    rw[Nat.zero_add];cases h
    rfl
  |n+1,s,t,r,h=>by
    rw[Nat.succ_add];unfold runK at h;conv=>lhs;unfold lE
    cases a:through t
    · rw[a]at h;dsimp only at h⊢
      cases b:stepOk m ann t
      · rw[b]at h;cases h
      · rw[b]at h;dsimp only at h⊢
        cases c:stepT (denote tb) p w s t with
        |none=>rw[c]at h;cases h
        |some r=>rw[c]at h;exact cg h
    · rw[a]at h;cases h
abbrev kT (x y:Str)(s:Stmt):Obj:=⟨.none,none,.func { name:=x,qualname:=y,params:=ua s,body:=.stmts (tI s),scope:=pC s,globals:=builtinsNs,closure:=[],defaults:=.none,kwdefaults:=.none },#[]⟩
abbrev bo (P:Params)(i:Nat):Obj:=(boot_heap P).objs.toList.getD i ⟨.none,none,.plain,#[]⟩
abbrev iy (p:Program):Env:={ scope:=p.main.scope,locals:=mainNs,globals:=mainNs,cells:=[],code:=.ref 13,frame:=some 14 }
abbrev Kv:Frame:=.ret (λx=>Sem.bind (match x with| .ok f=>Sem.pure f| .error e=>Sem.raise e) (λ_=>ret .none)) none false [] (.builtin "claim.caller" {}) default []
abbrev Ao (p:Program)(X:List Stmt):Sem Fin:=Sem.bind (Sem.onRaise (execs X (iy p)) (leaving (iy p))) (λa=>Sem.pure (Fin.done a))
abbrev ie (p:Program)(X:List Stmt)(q:Pos):Thread:=⟨Ao p X,.body (ac p) (iy p),q,[Kv]⟩
def yr {tb:String->Option Builtin}{p:Program}(h:blockStart (ac p) (iy p)=Sem.pure ()):denote tb (.body (ac p) (iy p))=Ao p (ac p):=by
  show Sem.bind (blockStart (ac p) (iy p)) (λ_=>Ao p (ac p))=_;rw[h]
  rfl
abbrev o0:Obj:=⟨.type "tuple",none,.seq #[] 0,#[]⟩
abbrev oN:Obj:=⟨.none,none,.fields #[],#[]⟩
abbrev oL:List Str->Nat->List Value
  | [],_=>[]
  |x::r,t=>.str x t::oL r (t+1)
abbrev oS (l:List Str)(t:Nat):Obj:=⟨.type "tuple",none,.seq (Array.mk (oL l t)) 0,#[]⟩
abbrev IU (l:List (Int×Nat)):Array Value:=(l.flatMap λp=>[.int p.1 0,.int 0 0,.ref p.2]).toArray
abbrev Kp:List (Int×Nat):=[(1,20),(5,27),(7,40),(12,59),(18,78),(24,97),(29,116),(34,135),(39,154),(46,173),(48,180),(52,188),(54,195),(56,202),(64,209),(92,257),(96,264),(102,271),(147,355),(150,362),(153,369),(155,383)]
abbrev Ko:List (Int×Nat):=Kp++[(169,416),(183,449),(197,482),(209,515),(226,548),(232,555),(235,562),(242,569),(295,659),(311,701)]
abbrev KS:List (Int×Nat):=Ko++[(340,754),(346,761),(348,768),(350,775),(369,809),(371,816),(373,823),(376,830),(379,837),(382,844),(389,851),(401,877),(412,903),(427,929),(444,955)]
abbrev K4:List (Int×Nat):=KS++[(462,981),(478,1007),(484,1014),(500,1021),(508,1026),(516,1033),(524,1040),(526,1047),(535,1054),(546,1061),(564,1068),(579,1075),(582,1082),(586,1089),(600,1096),(608,1103),(619,1110),(642,1117),(671,1124),(689,1129),(698,1134),(711,1141),(713,1146)]
abbrev oI (l c a:Nat):Obj:=⟨.none,none,.fields #[.int l 0,.int c 0,.ref a],#[]⟩
abbrev oK (x:Str)(t l r:Nat):Obj:=⟨.type "code",none,.fields #[.str x t,.str x (t+1),.str "/claim/cut.py" (t+2),.int l 0,.int 0 0,.int 0 0,.int 0 0,.int 0 0,.ref r,.bool false,.int 181 0,.ref (r+1),.none,.none,.none,.none,.int (t+3:Nat) 0,.int l 0,.str "/claim/cut.py" (t+4)],#[]⟩
abbrev oC (x y:Str)(t l n r u:Nat):Obj:=⟨.type "code",none,.fields #[.str x t,.str y (t+1),.str "/claim/cut.py" (t+2),.int l 0,.int n 0,.int 0 0,.int 0 0,.int 3 0,.ref r,.bool true,.int 181 0,.ref (r+1),.none,.ref (r+2),.ref (r+3),.ref (r+4),.int u 0,.int l 0,.str "/claim/cut.py" (u+1)],#[]⟩
abbrev oF (x y:Str)(s:Stmt)(m:Str)(t c:Nat)(d:Value:=.none):Obj:=⟨.type "function",none,.func (fnOf x y (ua s) (tI s) (pC s) d .none .none (.str m t) none (.ref c) .none),#[]⟩
abbrev oR (a b:Nat)(m:Str)(t:Nat):Obj:=⟨.type "frame",none,.plain,#[some (.ref a),some (.ref 3),some (.ref b),none,some (.str m t),none,some (.ref 0)]⟩
abbrev oX (x:Str)(b m:List Value)(n:Addr)(s:List Value)(r t u:Nat)(w:String):Obj:=⟨.type "type",none,.cls ⟨x,b,m,n,x,true,[],s,false,none,false⟩,#[some (.ref r),none,some (.str x t),some (.str x u),some (.builtin w),some (.bool true)]⟩
abbrev oU (a:Addr):Obj:=⟨.type "super",none,.fields #[.ref a,.ref a,.ref a],#[]⟩
abbrev oJ (a:Addr):Obj:=⟨.type "builtin_function_or_method",none,.fields #[.builtin "object.__init_subclass__",.ref a],#[]⟩
abbrev oP:Obj:=⟨.type "builtin_function_or_method",none,.fields #[.builtin "type.__prepare__",.type "type"],#[]⟩
abbrev oQ (a:Addr):Obj:=⟨.type "tuple",none,.seq #[.ref a] 0,#[]⟩
abbrev fG (x y:Str)(s:Stmt)(m:Str)(mt:Nat)(l:List Str)(t ln n a:Nat)(r:List Obj):List Obj:=o0::oN::oS l (t+3)::o0::kT x y s::oC x y t ln n a (t+3+l.length)::oF x y s m mt (a+5)::r
abbrev oW:List (Nat×Obj)->List Obj->List Obj
  | [],l=>l
  |x::r,l=>(oW r l).set x.1 x.2
abbrev eV (x:Str)(t:Tok)(v:Value)(P:Params):DictEntry:=⟨PyData.keyHash P x,.str x t,v⟩
abbrev eM (t:Nat)(m:Str)(u:Nat):Params->DictEntry:=eV "__module__" t (.str m u)
abbrev eQ (t:Nat)(m:Str)(u:Nat):Params->DictEntry:=eV "__qualname__" t (.str m u)
abbrev eF (t l u:Nat):Params->DictEntry:=eV "__firstlineno__" t (.int l u)
abbrev eS (t a:Nat):Params->DictEntry:=eV "__static_attributes__" t (.ref a)
abbrev eN (t:Nat):Params->DictEntry:=eV "__doc__" t .none
abbrev eR (x:Str)(t a:Nat):Params->DictEntry:=eV x t (.ref a)
abbrev oD (P:Params)(es:List (Params->DictEntry))(n:Nat):Obj:=⟨.type "dict",none,.dict (Array.mk (es.map λf=>f P)) n,#[]⟩
abbrev Lp (P:Params):List Obj:=
bo P 0::
bo P 1::
bo P 2::
bo P 3::
bo P 4::
bo P 5::
bo P 6::
bo P 7::
bo P 8::
bo P 9::
bo P 10::
o0::
oN::
oK "<module>" 182 1 11::
oR 13 3 "__main__" 164::[]
abbrev K1 (x y:Str)(t l n r:Nat):Obj:=⟨.type "code",none,.fields #[.str x t,.str y (t+1),.str "/claim/cut.py" (t+2),.int l 0,.int n 0,.int 0 0,.int 0 0,.int 3 0,.ref r,.bool true,.int 181 0,.ref (r+1),.none,.none,.none,.ref (r+2),.int (t+3:Nat) 0,.int l 0,.str "/claim/cut.py" (t+4)],#[]⟩
abbrev oG (x b:String)(v:Value)(a t:Nat):Obj:=⟨.type "getset_descriptor",none,.fields #[.str (Str.ofString x) t,.ref a,.builtin b,v],#[]⟩
@[reducible]def Mt:Type:=Str×Str×List Str×Nat×Nat×List (Obj×Nat)
abbrev C7 (a t:Nat)(s:Stmt)(m:Str×Nat)(x y:Str)(l:List Str)(ln n:Nat)(d:Value):List Obj:=match l with
  | []=>o0::oN::kT x y s::K1 x y t ln n a::oF x y s m.1 m.2 (a+3) d::[]
  |_=>o0::oN::oS l (t+3)::o0::kT x y s::oC x y t ln n a (t+3+l.length)::oF x y s m.1 m.2 (a+5) d::[]
abbrev KH (a t:Nat)(s:Stmt)(m:Str×Nat)(q:Mt):List Obj:=match q.2.2.2.2.2 with
  | []=>C7 a t s m q.1 q.2.1 q.2.2.1 q.2.2.2.1 q.2.2.2.2.1 .none
  |d::_=>d.1::C7 (a+1) (t+d.2) s m q.1 q.2.1 q.2.2.1 q.2.2.2.1 q.2.2.2.2.1 (.ref a)
abbrev C6 (q:Mt)(a:Nat):Nat:=match q.2.2.1 with
  | []=>a+5+q.2.2.2.2.2.length
  |_=>a+7+q.2.2.2.2.2.length
abbrev G5 (q:Mt)(t:Nat):Nat:=match q.2.2.2.2.2 with
  | []=>t+6+q.2.2.1.length
  |d::_=>t+d.2+6+q.2.2.1.length
abbrev KL (i:Nat)(m:Str×Nat):Nat->List Mt->Nat->Nat->(List Obj->Nat->Nat->List Obj)
  |_,[],_,_=>λr _ _=>r
  |j,q::l,a,t=>λr x y=>KH a t (inClass (top i) j) m q++KL i m (j+1) l (C6 q a) (G5 q t) r x y
abbrev KD:List Mt->Nat->Nat
  | [],a=>a
  |q::l,a=>KD l (C6 q a)
abbrev Ku:List Mt->Nat->Nat
  | [],a=>a
  |q::l,a=>Ku l (G5 q a)
abbrev KO:List Mt->Nat->Nat->List (Params->DictEntry)->List (Params->DictEntry)
  | [],_,_,r=>r
  |q::l,a,t,r=>eR q.1 (G5 q t-1) (C6 q a-1)::KO l (C6 q a) (G5 q t) r
abbrev KU:List Mt->Nat->List Value
  | [],_=>[]
  |q::l,a=>.int q.2.2.2.1 0::.int 4 0::.ref (C6 q a-2)::KU l (C6 q a)
@[reducible]def It:Type:=(Params->List Obj)×List (Params->DictEntry)×List Value
abbrev iF (a t i:Nat)(m:Str×Nat)(x:Str)(l:List Str)(ln n:Nat)(d:List (Obj×Nat):=[]):It:=(λ_=>KH a t (top i) m (x,x,l,ln,n,d),eR x (G5 (x,x,l,ln,n,d) t-1) (C6 (x,x,l,ln,n,d) a-1)::[],.int ln 0::.int 0 0::.ref (C6 (x,x,l,ln,n,d) a-2)::[])
abbrev iR (o:Params->List Obj):It:=(o,[],[])
abbrev iE (x:Str)(t:Nat)(v:Value):It:=(λ_=>[],[eV x t v],[])
abbrev iC (a T i:Nat)(m:Str×Nat)(x:Str)(ln:Nat)(ms:List Mt)(st:List Str)(sub:List Value:=[]) (br:Nat:=0) (mro:List Value:=[]) (w:String:=""):It:=
  let b:=KD ms (a+7)
  let s:=Ku ms (T+12)
  let e:=s+st.length
  let h (z:List (Params->DictEntry)):=eF (T+11) ln (T+10)::KO ms (a+7) (T+12) (eS e b::z)
  let o (y:List (Params->DictEntry)) (z k:Obj) (n:Nat) (r:List Obj) (P:Params):List Obj:=z::oP::oD P (eM (T+7) m.1 m.2::eQ (T+9) x (T+8)::h []) (4+ms.length)::o0::⟨.none,none,.fields (Array.mk (KU ms (a+7))),#[]⟩::oK x (T+2) ln (a+3)::oR (a+5) (a+2) m.1 m.2::KL i m 0 ms (a+7) (T+12) ((match st with| []=>o0|_=>oS st s)::oD P (eM (T+7) m.1 m.2::h y) n::k::r) 0 0
  match br with
  |0=>(o [eR "__dict__" (e+2) (b+3),eR "__weakref__" (e+4) (b+4),eN (e+5)] o0 ⟨.type "type",none,.cls ⟨x,[.type "object"],[.ref (b+2),.type "object"],b+1,x,true,[],sub,false,none,false⟩,#[none,none,some (.str x T),some (.str x (T+8)),some (.builtin "object.__new__"),some (.bool true)]⟩ 4 [oG "__dict__" "function.__dict__" (.builtin "function.__dict__#set") (b+2) (e+1),oG "__weakref__" "ExceptionGroup.__weakref__" .none (b+2) (e+3),oU (b+2),oJ (b+2)],eR x (e+7) (b+2)::[],.int ln 0::.int 0 0::.ref (a+5)::[])
  |_=>(o [eN (e+1)] (oQ br) (oX x [.ref br] (.ref (b+2)::.ref br::mro) (b+1) sub a T (T+8) w) 2 [oU (b+2),oJ (b+2)],eR x (e+3) (b+2)::[],.int ln 0::.int 0 0::.ref (a+5)::[])
abbrev GR (P:Params)(nm:Str)(nt n:Nat)(l:List It):List Obj:=bo P 0::bo P 1::bo P 2::oD P (eV "__name__" 165 (.str nm nt)::eN 166::eV "__package__" 167 .none::eV "__loader__" 168 (.builtin "__main__.__loader__#opaque")::eV "__spec__" 169 .none::eR "__annotations__" 170 6::eR "__builtins__" 171 4::eV "__file__" 173 (.str "/claim/cut.py" 172)::eV "__cached__" 174 .none::l.flatMap (·.2.1)) n::bo P 4::bo P 5::bo P 6::bo P 7::bo P 8::bo P 9::bo P 10::o0::⟨.none,none,.fields (Array.mk (l.flatMap (·.2.2))),#[]⟩::oK "<module>" 182 1 11::oR 13 3 "__main__" 164::l.flatMap (·.1 P)
abbrev Lo:Str×Nat:=("__main__",164)
abbrev D3:Str×Nat:=("haulbell.errors",194)
abbrev KI:Str×Nat:=("haulbell.wholes",393)
abbrev Iu:Str×Nat:=("haulbell.boxes",411)
abbrev KY:Str×Nat:=("haulbell.store",523)
abbrev Cv:Str×Nat:=("haulbell.deeds",640)
abbrev IV:Str×Nat:=("haulbell.machine",890)
abbrev KP:Str×Nat:=("haulbell.watched",1034)
abbrev Ld:Str×Nat:=("haulbell.logs",1163)
abbrev Kc:Str×Nat:=("haulbell.hops",1176)
abbrev jD:Str×Nat:=("haulbell.longs",1238)
abbrev cE:Str×Nat:=("law_haulbell_k55_logs_let_by",1492)
abbrev FD (a T i:Nat)(m:Str×Nat)(x:Str)(ln:Nat)(ms:List Mt)(st:List Str)(sub:List Value:=[]):It:=iC a T i m x ln ms st sub 31 [.type "ValueError",.type "Exception",.type "BaseException",.type "object"] "ValueError.__new__"
abbrev wb (a T i:Nat)(m:Str×Nat)(x:Str)(ln:Nat)(ms:List Mt)(st:List Str)(sub:List Value:=[]):It:=iC a T i m x ln ms st sub 373 [.type "object"] "object.__new__"
abbrev Lb (a T i:Nat)(m:Str×Nat)(x:Str)(ln:Nat)(ms:List Mt)(st:List Str)(sub:List Value:=[]):It:=iC a T i m x ln ms st sub 649 [.type "object"] "object.__new__"
abbrev zS:List It:=
iF 15 187 0 Lo "_wall" ["k"] 1 1::
iE "HaulError" 213 (.ref 31)::
iR (λP=>[⟨.type "tuple",none,.seq #[.type "ValueError"] 0,#[]⟩,oP,oD P [eM 203 "haulbell.errors" 194,eQ 205 "HaulError" 204,eF 207 5 206,eS 208 29] 4,o0,oN,oK "HaulError" 198 5 25,oR 27 24 "haulbell.errors" 194,o0,oD P [eM 203 "haulbell.errors" 194,eF 207 5 206,eS 208 29,eR "__weakref__" 210 32,eN 211] 3,oX "HaulError" [.type "ValueError"] [.ref 31,.type "ValueError",.type "Exception",.type "BaseException",.type "object"] 30 [.ref 51,.ref 70,.ref 89,.ref 108,.ref 127,.ref 146,.ref 165] 22 196 204 "ValueError.__new__",⟨.type "getset_descriptor",none,.fields #[.str "__weakref__" 209,.ref 31,.builtin "ExceptionGroup.__weakref__",.none],#[]⟩,oU 31,oJ 31])::
FD 35 214 3 D3 "NoStore" 7 [("__init__","NoStore.__init__",["self","at"],9,2,[])] ["at"]::
FD 54 239 4 D3 "Stop" 12 [("__init__","Stop.__init__",["self","deed","cell"],14,3,[])] ["cell","deed"]::
FD 73 266 5 D3 "NoFit" 18 [("__init__","NoFit.__init__",["self","box","number"],20,3,[])] ["box","number"]::
FD 92 293 6 D3 "NoBox" 24 [("__init__","NoBox.__init__",["self","box"],26,2,[])] ["box"]::
FD 111 318 7 D3 "NoDeed" 29 [("__init__","NoDeed.__init__",["self","word"],31,2,[])] ["word"]::
FD 130 343 8 D3 "NoRows" 34 [("__init__","NoRows.__init__",["self","at"],36,2,[])] ["at"]::
FD 149 368 9 D3 "NoPlace" 39 [("__init__","NoPlace.__init__",["self","at"],41,2,[])] ["at"]::
iE "BOUND" 396 (.int 1000000000 395)::
iF 168 397 12 KI "is_whole" ["thing"] 46 1::
iF 175 404 13 KI "is_content" ["thing"] 48 1::
iE "NAMES" 419 (.ref 182)::
iR (λ_=>[oS ["here","there","left","way","sign","met"] 413])::
iF 183 420 16 Iu "is_box" ["thing"] 52 1::
iF 190 427 17 Iu "is_number" ["thing"] 54 1::
iF 197 434 18 Iu "fits" ["box","thing"] 56 2::
iC 204 442 19 Iu "Boxes" 64 [("__init__","Boxes.__init__",["self","here","there","left","way","sign","met","handed","box","number"],66,7,[(⟨.type "tuple",none,.seq #[.int 0 454,.int 0 455,.int 0 456,.int 1 457,.int 0 458,.int 0 459] 0,#[]⟩,6)]),("holds","Boxes.holds",["self","box"],73,2,[]),("give","Boxes.give",["self","box","number"],78,3,[]),("told","Boxes.told",[],85,1,[]),("copied","Boxes.copied",["self","other"],88,1,[])] ["numbers"]::
iF 252 516 20 Iu "boxes_of" ["numbers"] 92 1::
iE "MOST_CELLS" 526 (.int 60 525)::
iF 259 527 23 KY "check_cells" ["cells","at","thing"] 96 1::
iC 266 536 24 KY "Store" 102 [("__init__","Store.__init__",["self","cells"],104,2,[]),("size","Store.size",["self"],109,1,[]),("told","Store.told",["self"],112,1,[]),("leaves","Store.leaves",["self"],115,1,[]),("leave","Store.leave",["self","low","behind","word"],118,4,[]),("may","Store.may",["self","deed","cell"],121,3,[]),("look","Store.look",["self","cell"],128,2,[]),("put","Store.put",["self","cell","content"],133,3,[]),("restore","Store.restore",["self","cell","content"],138,3,[]),("copied","Store.copied",["self","other"],141,1,[])] ["contents","permits"]::
iF 350 642 26 Cv "check_box" ["word","box"] 147 2::
iF 357 650 27 Cv "check_number" ["word","number"] 150 2::
iC 364 658 0 Cv "Deed" 153 [] [] [.ref 408,.ref 441,.ref 474,.ref 507,.ref 540,.ref 801,.ref 869,.ref 895,.ref 921,.ref 947,.ref 973,.ref 999]::
wb 378 678 29 Cv "Set" 155 [("__init__","Set.__init__",["self","box","number"],157,3,[]),("step","Set.step",["self","boxes","store"],163,3,[]),("words","Set.words",["self"],167,1,[])] ["box","number"]::[]
abbrev jx:List It:=
wb 411 721 30 Cv "Add" 169 [("__init__","Add.__init__",["self","box","number"],171,3,[]),("step","Add.step",["self","boxes","store"],177,3,[]),("words","Add.words",["self"],181,1,[])] ["box","number"]::
wb 444 764 31 Cv "Take" 183 [("__init__","Take.__init__",["self","box","other"],185,3,[]),("step","Take.step",["self","boxes","store"],191,3,[]),("words","Take.words",["self"],195,1,[])] ["box","other"]::
wb 477 807 32 Cv "Read" 197 [("__init__","Read.__init__",["self","box"],199,2,[]),("step","Read.step",["self","boxes","store"],203,3,[]),("words","Read.words",["self"],207,1,[])] ["box"]::
wb 510 848 33 Cv "Write" 209 [("__init__","Write.__init__",["self","box"],211,2,[]),("step","Write.step",["self","boxes","store","number"],215,3,[]),("words","Write.words",["self"],222,1,[])] ["box"]::
iE "MOST_ROWS" 893 (.int 24 892)::
iF 543 894 36 IV "check_rows" ["rows","at","thing"] 226 1::
iF 550 903 37 IV "check_place" ["at","many"] 232 2::
iF 557 911 38 IV "tried" ["deed","boxes","store","stop","refusal"] 235 3::
iC 564 922 39 IV "Machine" 242 [("__init__","Machine.__init__",["self","rows","store","boxes","at"],244,5,[(⟨.type "tuple",none,.seq #[.int 0 934] 0,#[]⟩,1)]),("ended","Machine.ended",["self"],252,1,[]),("step_on","Machine.step_on",["self","store","by"],255,2,[]),("step","Machine.step",["self"],264,1,[]),("run","Machine.run",["self","most","steps"],267,2,[]),("why","Machine.why",["self"],277,1,[]),("state","Machine.state",["self"],280,1,[]),("leaves","Machine.leaves",["self"],283,1,[]),("leave","Machine.leave",["self","low","behind","word"],286,4,[]),("rows","Machine.rows",[],289,1,[]),("copied","Machine.copied",["self"],292,1,[])] ["at","boxes","deeds","store"] [.ref 746]::
iC 654 1036 41 KP "Noted" 295 [("__init__","Noted.__init__",["self","store"],297,2,[]),("may","Noted.may",["self","deed","cell"],302,3,[]),("look","Noted.look",["self","cell"],305,2,[]),("put","Noted.put",["self","cell","content"],308,3,[])] ["before","changes","store"]::
Lb 696 1093 42 KP "Watched" 311 [("__init__","Watched.__init__",["self","rows","store","boxes","at"],313,5,[(⟨.type "tuple",none,.seq #[.int 0 1105] 0,#[]⟩,1)]),("step","Watched.step",["self","row","ahead","noted","word"],317,1,[]),("log","Watched.log",[],326,1,[]),("back","Watched.back",["self","many"],329,2,[]),("undo","Watched.undo",["self","entry"],332,2,[]),("copied","Watched.copied",["self","other"],335,1,[])] ["entries"]::[]
abbrev EO:List It:=
iF 749 1165 44 Ld "log_holds" ["rows","first","entries","last","machine"] 340 4::
iE "MOST_HOPPED" 1179 (.int 24 1178)::
iF 756 1180 47 Kc "is_many" ["thing"] 346 1::
iF 763 1187 48 Kc "is_on" ["thing"] 348 1::
wb 770 1194 49 Kc "Hop" 350 [("__init__","Hop.__init__",["self","many","on"],352,3,[(⟨.type "tuple",none,.seq #[.none] 0,#[]⟩,0)]),("step","Hop.step",["self","boxes","store"],358,3,[]),("words","Hop.words",["self","told"],363,1,[])] ["many","on"]::
iF 804 1240 51 jD "more" ["boxes","box","by"] 369 3::
iF 811 1249 52 jD "go_by_way" ["boxes","box"] 371 2::
iF 818 1257 53 jD "less_left" ["boxes","by"] 373 2::
iF 825 1265 54 jD "ask_put" ["store","cell"] 376 2::
iF 832 1273 55 jD "haul" ["store","source","target","content"] 379 3::
iF 839 1283 56 jD "exchange" ["store","one","other","first","second"] 382 3::
wb 846 1294 57 jD "Copy" 389 [("step","Copy.step",["self","boxes","store"],391,3,[]),("words","Copy.words",["self"],399,1,[])] []::
wb 872 1326 58 jD "Fill" 401 [("step","Fill.step",["self","boxes","store"],403,3,[]),("words","Fill.words",["self"],410,1,[])] []::
wb 898 1358 59 jD "Seek" 412 [("step","Seek.step",["self","boxes","store"],414,3,[]),("words","Seek.words",["self"],425,1,[])] []::
wb 924 1390 60 jD "Match" 427 [("step","Match.step",["self","boxes","store","content"],429,3,[]),("words","Match.words",["self"],442,1,[])] []::
wb 950 1423 61 jD "Shift" 444 [("step","Shift.step",["self","boxes","store","left","here","there"],446,3,[]),("words","Shift.words",["self"],460,1,[])] []::[]
abbrev GA:List It:=
wb 976 1458 62 jD "Turn" 462 [("step","Turn.step",["self","boxes","store","left","here"],464,3,[]),("words","Turn.words",["self"],475,1,[])] []::
iF 1002 1494 64 cE "_law_hand" ["_law_script","_law_cells_here","_law_fold","_law_cell"] 478 1::
iF 1009 1504 65 cE "_law_draw" ["_law_hand_here","_law_many","_law_rest","_law_cell","_law_one","_law_two"] 484 2::
iF 1016 1516 66 cE "_law_content" ["_law_hand_here","_law_way","_law_few"] 500 1::
iF 1023 1525 67 cE "_law_cells" [] 508 2::
iF 1028 1531 68 cE "_law_leaves" ["_law_hand_here","_law_many","_law_leaves_here","_law_k","_law_word","_law_low","_law_cell"] 516 2::
iF 1035 1544 69 cE "_law_whole" ["_law_thing"] 524 1::
iF 1042 1551 70 cE "_law_spot" ["_law_hand_here","_law_many","_law_way"] 526 2::
iF 1049 1560 71 cE "_law_six" ["_law_hand_here","_law_cells_here","_law_many","_law_way","_law_left","_law_sign","_law_here","_law_there"] 535 2::
iF 1056 1574 72 cE "_law_spec" ["_law_hand_here","_law_size","_law_way","_law_names","_law_box","_law_pick"] 546 2::
iF 1063 1586 73 cE "_law_deed" ["_law_spec_here","_law_word"] 564 1::
iF 1070 1594 74 cE "_law_long" ["_law_word","_law_made"] 579 1::
iF 1077 1602 75 cE "_law_let" ["_law_leaves_here","_law_deed_here","_law_cell"] 582 3::
iF 1084 1611 76 cE "_law_reach" ["_law_spec_here","_law_boxes","_law_here","_law_there","_law_left","_law_word","_law_far","_law_found"] 586 2::
iF 1091 1625 77 cE "_law_fits" ["_law_box","_law_number"] 600 2::
iF 1098 1633 78 cE "_law_barred" ["_law_spec_here","_law_boxes","_law_leaves_here","_law_looks","_law_puts","_law_cell"] 608 3::
iF 1105 1645 79 cE "_law_step" ["_law_spec_here","_law_boxes","_law_cells_here","_law_leaves_here","_law_barred_here","_law_word","_law_number"] 619 4::
iF 1112 1658 80 cE "_law_moved" ["_law_word","_law_boxes","_law_cells_here","_law_here","_law_there","_law_left","_law_way","_law_size","_law_content_here"] 642 3::
iF 1119 1673 81 cE "_law_looked" ["_law_word","_law_boxes","_law_cells_here","_law_here","_law_there","_law_left","_law_way","_law_other"] 671 3::
iF 1126 1687 82 cE "_law_own" [] 689 3::
iF 1131 1693 83 cE "_law_go" [] 698 1::
iF 1136 1699 84 cE "_law_state" ["_law_own_here"] 711 1::
iF 1143 1706 85 cE "_law_told" [] 713 4::[]
abbrev K3 (P:Params):List Obj:=oW [(12,⟨.none,none,.fields (IU Kp),#[]⟩),(373,⟨.type "type",none,.cls ⟨"Deed",[.type "object"],[.ref 373,.type "object"],372,"Deed",true,[],[.ref 408],false,none,false⟩,#[none,none,some (.str "Deed" 658),some (.str "Deed" 666),some (.builtin "object.__new__"),some (.bool true)]⟩)] (GR P "haulbell.deeds" 640 34 zS)
abbrev K7 (P:Params):List Obj:=oW [(12,⟨.none,none,.fields (IU Ko),#[]⟩),(373,⟨.type "type",none,.cls ⟨"Deed",[.type "object"],[.ref 373,.type "object"],372,"Deed",true,[],[.ref 408,.ref 441,.ref 474,.ref 507,.ref 540],false,none,false⟩,#[none,none,some (.str "Deed" 658),some (.str "Deed" 666),some (.builtin "object.__new__"),some (.bool true)]⟩)] (GR P "haulbell.watched" 1034 45 (zS++jx))
abbrev Lg (P:Params):List Obj:=oW [(12,⟨.none,none,.fields (IU KS),#[]⟩),(373,⟨.type "type",none,.cls ⟨"Deed",[.type "object"],[.ref 373,.type "object"],372,"Deed",true,[],[.ref 408,.ref 441,.ref 474,.ref 507,.ref 540,.ref 801,.ref 869,.ref 895,.ref 921,.ref 947,.ref 973],false,none,false⟩,#[none,none,some (.str "Deed" 658),some (.str "Deed" 666),some (.builtin "object.__new__"),some (.bool true)]⟩)] (GR P "haulbell.longs" 1238 61 (zS++jx++EO))
abbrev K8 (P:Params):List Obj:=oW [(12,⟨.none,none,.fields (IU K4),#[]⟩)] (GR P "law_haulbell_k55_logs_let_by" 1492 84 (zS++jx++EO++GA))
abbrev S0 (P:Params)(os:OsState):SharedT:=⟨FE 0 .nil (Lp P),15,(boot_heap P).life,Array.mk [],boot_drawn,187,os⟩
abbrev q0:Pos:=⟨0,0,0,0⟩
abbrev S1 (P:Params)(os:OsState):SharedT:=⟨FE 0 .nil (K3 P),411,(boot_heap P).life,Array.mk [],boot_drawn,721,os⟩
abbrev q1:Pos:=⟨155,0,168,50⟩
abbrev S2 (P:Params)(os:OsState):SharedT:=⟨FE 0 .nil (K7 P),749,(boot_heap P).life,Array.mk [],boot_drawn,1163,os⟩
abbrev q2:Pos:=⟨311,0,338,20⟩
abbrev S3 (P:Params)(os:OsState):SharedT:=⟨FE 0 .nil (Lg P),976,(boot_heap P).life,Array.mk [],boot_drawn,1458,os⟩
abbrev q3:Pos:=⟨444,0,461,24⟩
abbrev S4 (P:Params)(os:OsState):SharedT:=⟨FE 0 .nil (K8 P),1148,(boot_heap P).life,Array.mk [],boot_drawn,1712,os⟩
abbrev q4:Pos:=⟨713,0,718,21⟩
abbrev K9 (P:Params):List Obj:=GR P "law_haulbell_k55_logs_let_by" 1492 85 (zS++jx++EO++GA++[iF 1148 1712 86 cE "law" [] 719 1])
abbrev K0 (P:Params):PySem.W.Frag:=IQ.map λa=>(a,(K9 P).getD a oN)
abbrev qv (p:Program):Program:=PySem.W.view p [86]
abbrev zH:List Str:="_wall"::"HaulError"::"NoStore"::"Stop"::"NoFit"::"NoBox"::"NoDeed"::"NoRows"::"NoPlace"::"BOUND"::"is_whole"::"is_content"::"NAMES"::"is_box"::"is_number"::"fits"::"Boxes"::"boxes_of"::"MOST_CELLS"::"check_cells"::"Store"::"check_box"::"check_number"::"Deed"::"Set"::"Add"::"Take"::"Read"::"Write"::"MOST_ROWS"::"check_rows"::"check_place"::"tried"::"Machine"::"Noted"::"Watched"::"log_holds"::"MOST_HOPPED"::"is_many"::"is_on"::"Hop"::"more"::"go_by_way"::"less_left"::"ask_put"::"haul"::"exchange"::"Copy"::"Fill"::"Seek"::"Match"::"Shift"::"Turn"::"_law_hand"::"_law_draw"::"_law_content"::"_law_cells"::"_law_leaves"::"_law_whole"::"_law_spot"::"_law_six"::"_law_spec"::"_law_deed"::"_law_long"::"_law_let"::"_law_reach"::"_law_fits"::"_law_barred"::"_law_step"::"_law_moved"::"_law_looked"::"_law_own"::"_law_go"::"_law_state"::"_law_told"::[]
end My
open PySem PySem.W in
set_option maxHeartbeats 0 in
def My.Dx (w:World)(os:OsState):My.runK treeTable My.pr w 11 (some (.ref 6)) 12 (My.Je w.params os) (topStub My.pr)=some (My.S0 w.params os,⟨denote treeTable (.body (ac My.pr) (My.iy My.pr)),.body (ac My.pr) (My.iy My.pr),default,[My.Kv]⟩):=by
  delta My.pr;rewrite[Fast.te2368527892694137696,Fast.te14364793385576792824]
  kernel_rfl
open PySem PySem.W in
set_option maxHeartbeats 0 in
def My.DX (w:World)(os:OsState)(B:List Stmt):My.runK treeTable My.pr w 11 (some (.ref 6)) 3655 (My.S0 w.params os) (My.ie My.pr (((ac My.pr).drop 0).take 30++B) My.q0)=some (My.S1 w.params os,My.ie My.pr B My.q1):=by
  delta My.pr;rewrite[Fast.te2368527892694137696,Fast.te14364793385576792824]
  kernel_rfl
open PySem PySem.W in
set_option maxHeartbeats 0 in
def My.Fp (w:World)(os:OsState)(B:List Stmt):My.runK treeTable My.pr w 11 (some (.ref 6)) 2637 (My.S1 w.params os) (My.ie My.pr (((ac My.pr).drop 30).take 13++B) My.q1)=some (My.S2 w.params os,My.ie My.pr B My.q2):=by
  delta My.pr;rewrite[Fast.te2368527892694137696,Fast.te14364793385576792824]
  kernel_rfl
open PySem PySem.W in
set_option maxHeartbeats 0 in
def My.Et (w:World)(os:OsState)(B:List Stmt):My.runK treeTable My.pr w 11 (some (.ref 6)) 2010 (My.S2 w.params os) (My.ie My.pr (((ac My.pr).drop 43).take 19++B) My.q2)=some (My.S3 w.params os,My.ie My.pr B My.q3):=by
  delta My.pr;rewrite[Fast.te2368527892694137696,Fast.te14364793385576792824]
  kernel_rfl
open PySem PySem.W in
set_option maxHeartbeats 0 in
def My.Dk (w:World)(os:OsState)(B:List Stmt):My.runK treeTable My.pr w 11 (some (.ref 6)) 981 (My.S3 w.params os) (My.ie My.pr (((ac My.pr).drop 62).take 24++B) My.q3)=some (My.S4 w.params os,My.ie My.pr B My.q4):=by
  delta My.pr;rewrite[Fast.te2368527892694137696,Fast.te14364793385576792824]
  kernel_rfl
open PySem PySem.W in
set_option maxHeartbeats 0 in
def My.GB:LeftO My.pr (My.qv My.pr) My.zH (λs=>xlAt (My.qv My.pr) [] s&&recOk PySem.Challenge.rw_haulbell_k55_logs_let_by.row.records s) (λs=>My.IQ.map s.heap.get?) (λw=>(My.K0 w.params).map λp=>some p.2) 18744:=by
  refine My.vb (by kernel_rfl) rfl (λ_=>by kernel_rfl) (λ_=>by kernel_rfl) (λ_=>by kernel_rfl) λw os=>?_
  have d:denote treeTable (.body (ac My.pr) (My.iy My.pr))=My.Ao My.pr (ac My.pr):=My.yr (by kernel_rfl);have e:My.lE treeTable My.pr w 11 (some (.ref 6)) (12+(3655+(2637+(2010+(981+(9449)))))) (My.Je w.params os) (topStub My.pr)=My.lE treeTable My.pr w 11 (some (.ref 6)) 9449 (My.S4 w.params os) (My.ie My.pr ((ac My.pr).drop 86) My.q4):=by
    rw[My.cg (My.Dx w os)];dsimp only;rw[d];show My.lE treeTable My.pr w 11 (some (.ref 6)) _ (My.S0 w.params os) (My.ie My.pr ((ac My.pr).drop 0) My.q0)=_;rw[show(ac My.pr).drop 0=((ac My.pr).drop 0).take 30++(ac My.pr).drop 30 from by
      rw[show(ac My.pr).drop 30=((ac My.pr).drop 0).drop 30 by rw[List.drop_drop],List.take_append_drop],My.cg (My.DX w os _)]
    rw[show(ac My.pr).drop 30=((ac My.pr).drop 30).take 13++(ac My.pr).drop 43 from by
      rw[show(ac My.pr).drop 43=((ac My.pr).drop 30).drop 13 by rw[List.drop_drop],List.take_append_drop],My.cg (My.Fp w os _)]
    rw[show(ac My.pr).drop 43=((ac My.pr).drop 43).take 19++(ac My.pr).drop 62 from by
      rw[show(ac My.pr).drop 62=((ac My.pr).drop 43).drop 19 by rw[List.drop_drop],List.take_append_drop],My.cg (My.Et w os _)]
    rw[show(ac My.pr).drop 62=((ac My.pr).drop 62).take 24++(ac My.pr).drop 86 from by
      rw[show(ac My.pr).drop 86=((ac My.pr).drop 62).drop 24 by rw[List.drop_drop],List.take_append_drop],My.cg (My.Dk w os _)]
  rw[show(18744:Nat)=12+(3655+(2637+(2010+(981+(9449))))) from rfl,e]
  delta My.pr;rewrite[Fast.te4187177175401517315,Fast.te5923862056798008813,Fast.te2368527892694137696,Fast.te14364793385576792824]
  kernel_rfl
set_option Elab.async false
open List(mem_range filterMap_cons mem_cons_self mem_cons_of_mem mem_cons mem_append mem_append_left getElem?_set_self getElem?_set_ne mem_append_right size_toArray any_eq_false length_cons map_cons length_map append_nil nodup_cons of_mem_zip length_take getElem?_append_right getElem?_append_left getElem?_map take_sublist mem_of_getElem? length_append length_replicate length_drop length_set all_cons any_cons replicate_succ flatten_cons append_assoc foldl_cons length_singleton nil_append find?_cons length_nil cons_append forIn_cons forIn_nil getElem?_eq_getElem getElem_mem drop_zero take_length lookup_cons not_mem_nil length_zip set_comm all_eq_true length_eq_zero_iff take_of_length_le zip_cons_cons zip_append take_append_drop isEmpty_iff mem_singleton take_succ map_replicate map_append getElem?_eq_none map_take map_drop)
@[reducible]def LB:Type:=Unit->PySem.Shared->Prop
@[reducible]def LD:Type:=PySem.Value->PySem.Shared->Prop
@[reducible]def LF:Type:=List (PySem.Addr×PySem.Obj)
@[reducible]def LG:Type:=PySem.Str->Option PySem.Value
namespace L2
open PySem PySem.Spec PyProof.Rows
@[reducible]def Key:=Sum Int Str
abbrev lZ:Key->Value->Bool
 | .inl k,v=>Value.isInt k v
 | .inr x,v=>Value.isStrOf x v
abbrev JL (w:World):Key->Int
 | .inl k=>hashInt k
 | .inr x=>hashStr w x
def aI:∀ {k:Key}{v:Value},lZ k v=true->(∃ i t,k=Sum.inl i/\v=Value.int i t)\/(∃ x t,k=Sum.inr x/\v=Value.str x t)
 | .inl i,v,h=>by
  obtain⟨t,e⟩:=Value.isInt_shape (k:=i) (v:=v) h;exact .inl ⟨i,t,rfl,e⟩
 | .inr x,v,h=>by
  obtain⟨t,e⟩:=Value.isStrOf_shape (x:=x) (v:=v) h;exact .inr ⟨x,t,rfl,e⟩
def vY (i:Int)(t:Tok):lZ (.inl i) (.int i t)=true:=by simp[lZ,Value.isInt]
def vS (x:Str)(t:Tok):lZ (.inr x) (.str x t)=true:=by simp[lZ,Value.isStrOf]
def Fs (a b:Int):decide ((Sum.inl a:Key)=Sum.inl b)=(a ==b):=by
 by_cases e:a=b
 .subst e;simp
 .have h:¬ (Sum.inl a:Key)=Sum.inl b:=λq=>e (Sum.inl.inj q)
  rw[decide_eq_false h];exact(beq_eq_false_iff_ne.mpr e).symm
def Ee (a b:Str):decide ((Sum.inr a:Key)=Sum.inr b)=decide (a=b):=by
 by_cases e:a=b
 .subst e;simp
 .have h:¬ (Sum.inr a:Key)=Sum.inr b:=λq=>e (Sum.inr.inj q)
  rw[decide_eq_false h,decide_eq_false e]
def Eb (a:Int)(b:Str):decide ((Sum.inl a:Key)=Sum.inr b)=false:=decide_eq_false (λq=>nomatch q)
def Eg (a:Str)(b:Int):decide ((Sum.inr a:Key)=Sum.inl b)=false:=decide_eq_false (λq=>nomatch q)
abbrev av (prog:Program)(w:World):PySem.KeyKind prog w Key where
 is:=lZ
 hash:=JL w
 inj:=λv a b ha hb=>by
  rcases aI ha with⟨i,t,rfl,rfl⟩|⟨x,t,rfl,rfl⟩
  .rcases aI hb with⟨j,u,rfl,e⟩|⟨y,u,rfl,e⟩
   .injection e with e1 _;rw[e1]
   .exact nomatch e
  .rcases aI hb with⟨j,u,rfl,e⟩|⟨y,u,rfl,e⟩
   .exact nomatch e
   .injection e with e1 _;rw[e1]
 byValue:=λk v h=>by
  rcases aI h with⟨i,t,rfl,rfl⟩|⟨x,t,rfl,rfl⟩<;>rfl
 pyHash:=λhv h=>by
  rcases aI hv with⟨i,t,rfl,rfl⟩|⟨x,t,rfl,rfl⟩
  .exact wpAny_pyHash_int h
  .exact wpAny_pyHash_str h
 eqBool:=λhu hv h=>by
  rcases aI hu with⟨i,t,rfl,rfl⟩|⟨x,t,rfl,rfl⟩
  .rcases aI hv with⟨j,u,rfl,rfl⟩|⟨y,u,rfl,rfl⟩
   .rw[Fs]at h;exact wpAny_eqBool_int h
   .rw[Eb]at h;exact SeqAt.EqAt.int_str i t y u _ _ _ _ h
  .rcases aI hv with⟨j,u,rfl,rfl⟩|⟨y,u,rfl,rfl⟩
   .rw[Eg]at h;exact SeqAt.EqAt.str_int x t j u _ _ _ _ h
   .rw[Ee]at h;exact wpAny_eqBool_str h
 «strs»:=λk x t v h=>by
  rcases aI h with⟨i,u,rfl,e⟩|⟨y,u,rfl,e⟩
  .exact nomatch e
  .injection e with e1 _
   subst e1;cases v<;>rfl
def pG (prog:Program)(w:World)(i:Int)(t:Tok):(av prog w).is (.inl i) (.int i t)=true:=vY i t
def pF (prog:Program)(w:World)(x:Str)(t:Tok):(av prog w).is (.inr x) (.str x t)=true:=vS x t
inductive V where
 |non|bl (b:Bool)|int (i:Int)|str (x:Str)|byt (b:Array UInt8)|flt (b:UInt64)|ref (a:Addr)|ty (n:String)
 deriving DecidableEq
abbrev RelV:V->Value->Prop
 | .non,u=>u=Value.none
 | .bl b,u=>u=Value.bool b
 | .int i,u=>∃ t,u=Value.int i t
 | .str x,u=>∃ t,u=Value.str x t
 | .byt b,u=>∃ t,u=Value.bytes b t
 | .flt b,u=>∃ t,u=Value.float b t
 | .ref a,u=>u=Value.ref a
 | .ty n,u=>u=Value.type n
@[reducible]def Vals:List V->List Value->Prop:=Paired RelV
variable {xs:List V}{us:List Value}
def Vals.length (r:Vals xs us):xs.length=us.length:=Paired.length r
def Vals.get:∀ {xs:List V}{us:List Value}{i:Nat}{x:V},Vals xs us->xs[i]? =some x->∃ u,us[i]? =some u/\RelV x u
 |_,_,_,_,.nil,e=>by simp at e
 |_,_,0,_,.cons r _,e=>by simp at e;subst e;exact⟨_,rfl,r⟩
 |_,_,i+1,x,.cons _ t,e=>by
  obtain⟨u,h1,h2⟩:=Vals.get (i:=i) (x:=x) t (by simpa using e);exact⟨u,by simpa using h1,h2⟩
variable {u:Value}
def Vals.set {x:V}(r:RelV x u):∀ {xs:List V}{us:List Value}(i:Nat),Vals xs us->Vals (xs.set i x) (us.set i u)
 |_,_,_,.nil=>.nil
 |_,_,0,.cons _ t=>.cons r t
 |_,_,i+1,.cons q t=>.cons q (Vals.set r i t)
def Vals.append:∀ {xs ys:List V}{us ws:List Value},Vals xs us->Vals ys ws->Vals (xs++ys) (us++ws)
 |_,_,_,_,.nil,s=>s
 |_,_,_,_,.cons r t,s=>.cons r (Vals.append t s)
def Vals.take:∀ {xs:List V}{us:List Value}(n:Nat),Vals xs us->Vals (xs.take n) (us.take n)
 |_,_,0,_=>.nil
 |_,_,_+1,.nil=>.nil
 |_,_,n+1,.cons r t=>.cons r (Vals.take n t)
def Vals.drop:∀ {xs:List V}{us:List Value}(n:Nat),Vals xs us->Vals (xs.drop n) (us.drop n)
 |_,_,0,r=>r
 |_,_,_+1,.nil=>.nil
 |_,_,n+1,.cons _ t=>Vals.drop n t
abbrev cL:Option V->Option Value->Prop
 |some v,some u=>RelV v u
 |none,none=>True
 |_,_=>False
abbrev KV {κ:Type}:List (κ×V)->List (κ×Value)->Prop:=Paired λ(p:κ×V) (q:κ×Value)=>p.1=q.1/\RelV p.2 q.2
abbrev kV:Key->V
 | .inl i=>.int i
 | .inr x=>.str x
inductive HO where
  |lst (xs:List V)
  |tup (xs:List V)
  |dK (kvs:List (Key×V))|dT (kvs:List (List Key×V))
  |set (S:Int->Bool) (n:Nat)
  |ins (C dx:Addr) (fs:List (Str×V))
  |own (x:Addr)
  |exc (C:Addr) (dx:Option Addr) (fs:List (Str×V)) (fr:Bool)
  |xd (fs:List (Str×V))
  |met (f x:Addr)
  |rng (lo hi:Int)
  |frz (o:Obj) (u:HO)
  |tbl (ps:Array Value)
  |ext (φ:Heap->Prop)
@[reducible]def Hp:=Addr->Option HO
abbrev upd (H:Hp)(a:Addr)(o:HO):Hp:=λb=>if b=a then some o else H b
variable {H:Hp}{a:Addr}{o:HO}
def aB:upd H a o a=some o:=by unfold upd;rw[if_pos rfl]
variable {b:Addr}
def ak (h:b≠a):upd H a o b=H b:=by unfold upd;rw[if_neg h]
def Ae {u:HO}:upd (upd H a o) a u=upd H a u:=by
 funext b;unfold upd;split<;>rfl
def GH {u:HO}(h:H a=some o)(h':H b=some u)(d:o≠u):a≠b:=by
 intro e;subst e;rw[h]at h';exact d (Option.some.inj h')
def aQ (h:H a=some o)(h':H b=none):a≠b:=by
 intro e;subst e;rw[h]at h';cases h'
section
variable (P:Program) (w:World)
abbrev aL (H:Hp)(h:Heap)(a:Addr):HO->Prop
 | .lst xs=>xs.length<=bn/\∃ (its:List Value) (n:Nat),Vals xs its/\h.get? a=some { cls:=.type "list",data:=.seq its.toArray n }
 | .tup xs=>xs.length<=bn/\∃ its:List Value,Vals xs its/\IsTup h a its.toArray
 | .dK kvs=>kvs.length<=bn/\(a ==sysModules)=false/\∃ vs,KV kvs vs/\h.DictOf (av P w) a vs
 | .dT kvs=>kvs.length<=bn/\(a ==sysModules)=false/\∃ xs:List (List Key×Addr×Value),
   Paired (λ(p:List Key×V) (q:List Key×Addr×Value)=>p.1=q.1/\H q.2.1=some (.tup (p.1.map kV))/\RelV p.2 q.2.2) kvs xs/\
   ∃ o es ep,h.get? a=some o/\o.ExactDict/\o.data=.dict es ep/\es.toList=xs.map (entryOfKey (tupleKind (av P w)))/\(xs.map (·.1)).Nodup
 | .set S n=>h.SetOf (intKind P w) a S n
 | .ins C dx fs=>H dx=some (.own a)/\fs.length<=1000/\dx≠a/\h.get? a=some (W.instObj C dx)/\
   ∃ mA,h.Ns1 dx mA/\(∀ f,cL (fs.lookup f) (mA f))/\PySem.Within mA (fs.map (·.1))
 | .exc C dx fs fr=>(∃ vs,h.get? a=some { cls:=.ref C,dict:=dx,data:=.fields vs }/\vs.size=6/\(fr=true->vs[1]? =some Value.none))/\
   ((dx=none/\fs=[])\/∃ d,dx=some d/\H d=some (.own a)/\fs.length<=1000/\d≠a/\∃ mA,h.Ns1 d mA/\(∀ f,cL (fs.lookup f) (mA f))/\PySem.Within mA (fs.map (·.1)))
 | .own _=>∃ o,h.get? a=some o
 | .xd fs=>∃ mA,h.Ns1 a mA/\∀ f,cL (fs.lookup f) (mA f)
 | .rng lo hi=>∃ t u v,h.get? a=some { cls:=.type "range",data:=.fields #[.int lo t,.int hi u,.int 1 v] }
 | .frz o u=>h.get? a=some o/\aL H h a u
 | .tbl ps=>h.get? a=some { cls:=.none,data:=.fields ps }
 | .met f x=>h.get? a=some (W.methodObj (.ref f) (.ref x))
 | .ext φ=>φ h/\(∃ o,h.get? a=some o)/\∀ h1 h2:Heap,φ h1->(∀ o,h1.get? a=some o->h2.get? a=some o)->φ h2
abbrev fR (H:Hp)(h:Heap):Prop:=∀ a o,H a=some o->aL P w H h a o
end
section
variable {P:Program}{w:World}{H H':Hp}{h h':Heap}{a:Addr}{o:HO}
def aL.lt (x:aL P w H h a o):a<h.objs.size:=by
 cases o with
 |lst xs=>obtain⟨_,_,_,_,e⟩:=x;exact tz e
 |tup xs=>obtain⟨_,_,_,p⟩:=x;exact p.lt
 |dK kvs=>obtain⟨_,_,_,_,o,_,_,e,_⟩:=x;exact tz e
 |dT kvs=>obtain⟨_,_,_,_,o,_,_,e,_⟩:=x;exact tz e
 |set S n=>obtain⟨o,_,_,_,e,_⟩:=x;exact tz e
 |ins C dx fs=>obtain⟨_,_,_,e,_⟩:=x;exact tz e
 |exc C dx fs fr=>obtain⟨⟨_,e,_⟩,_⟩:=x;exact tz e
 |own y=>obtain⟨_,e⟩:=x;exact tz e
 |xd fs=>obtain⟨_,⟨_,_,_,e,_⟩,_⟩:=x;exact tz e
 |rng lo hi=>obtain⟨_,_,_,e⟩:=x;exact tz e
 |frz ob u=>obtain⟨e,_⟩:=x;exact tz e
 |tbl ps=>exact tz (show h.get? a=some _ from x)
 |met f y=>exact tz (show h.get? a=some _ from x)
 |ext φ=>obtain⟨_,⟨_,e⟩,_⟩:=x;exact tz e
def Paired.Ds {α β:Type}{F G:α->β->Prop}:∀ {l₁:List α}{l₂:List β},Paired F l₁ l₂->(∀ a b,F a b->G a b)->Paired G l₁ l₂
 |_,_,.nil,_=>.nil
 |_,_,.cons r t,f=>.cons (f _ _ r) (Paired.Ds t f)
def aL.jy (x:aL P w H h a o)(k:∀ b u,(b=a\/H b=some (.own a))->h.get? b=some u->h'.get? b=some u)
  (ho:∀ b,H b=some (.own a)->H' b=some (.own a)) (ht:∀ b xs,H b=some (.tup xs)->H' b=some (.tup xs)):aL P w H' h' a o:=by
 induction o with
 |lst xs=>obtain⟨z,its,n,r,e⟩:=x;exact⟨z,its,n,r,k _ _ (.inl rfl) e⟩
 |tup xs=>obtain⟨z,its,r,ob,e,c⟩:=x;exact⟨z,its,r,ob,k _ _ (.inl rfl) e,c⟩
 |dK kvs=>obtain⟨z,y,vs,r,ob,es,ep,e,c⟩:=x;exact⟨z,y,vs,r,ob,es,ep,k _ _ (.inl rfl) e,c⟩
 |dT kvs=>
  obtain⟨z,y,xs,r,ob,es,ep,e,c⟩:=x;exact⟨z,y,xs,Paired.Ds r λp q z=>⟨z.1,ht _ _ z.2.1,z.2.2⟩,ob,es,ep,k _ _ (.inl rfl) e,c⟩
 |set S n=>obtain⟨ob,es,ep,t,e,c⟩:=x;exact⟨ob,es,ep,t,k _ _ (.inl rfl) e,c⟩
 |ins C dx fs=>
  obtain⟨d,z,ne,e,mA,⟨od,es,ep,e2,c⟩,r⟩:=x;exact⟨ho _ d,z,ne,k _ _ (.inl rfl) e,mA,⟨od,es,ep,k _ _ (.inr d) e2,c⟩,r⟩
 |exc C dx fs fr=>
  obtain⟨⟨vs,e,z⟩,q⟩:=x;refine⟨⟨vs,k _ _ (.inl rfl) e,z⟩,?_⟩;rcases q with q|⟨d,ed,d1,z1,ne,mA,⟨od,es,ep,e2,c⟩,r⟩
  .exact .inl q
  .exact .inr ⟨d,ed,ho _ d1,z1,ne,mA,⟨od,es,ep,k _ _ (.inr d1) e2,c⟩,r⟩
 |own y=>obtain⟨ob,e⟩:=x;exact⟨ob,k _ _ (.inl rfl) e⟩
 |xd fs=>obtain⟨mA,⟨od,es,ep,e,c⟩,r⟩:=x;exact⟨mA,⟨od,es,ep,k _ _ (.inl rfl) e,c⟩,r⟩
 |rng lo hi=>obtain⟨t,u,v,e⟩:=x;exact⟨t,u,v,k _ _ (.inl rfl) e⟩
 |frz ob u ih=>obtain⟨e,q⟩:=x;exact⟨k _ _ (.inl rfl) e,ih q⟩
 |tbl ps=>
  have e:h.get? a=some { cls:=.none,data:=.fields ps }:=x;show h'.get? a=some { cls:=.none,data:=.fields ps };exact k a _ (.inl rfl) e
 |met f y=>
  have e:h.get? a=some (W.methodObj (.ref f) (.ref y)):=x;show h'.get? a=some (W.methodObj (.ref f) (.ref y));exact k a _ (.inl rfl) e
 |ext φ=>obtain⟨p,⟨o,e⟩,st⟩:=x;exact⟨st _ _ p λo q=>k _ _ (.inl rfl) q,⟨o,k _ _ (.inl rfl) e⟩,st⟩
def fR.lt (x:fR P w H h)(e:H a=some o):a<h.objs.size:=(x a o e).lt
def fR.fresh (x:fR P w H h)(e:h.objs.size<=a):H a=none:=by
 cases q:H a with
 |none=>rfl
 |some u=>exact absurd (nw (x.lt q) e) (Nat.lt_irrefl _)
def fR.kept (x:fR P w H h)(k:∀ b u,h.get? b=some u->h'.get? b=some u):fR P w H h':=λa o e=>
 (x a o e).jy (λb u _ q=>k b u q) (λ_ q=>q) λ_ _ q=>q
def fR.laid (x:fR P w H h)(k:∀ b u,h.get? b=some u->h'.get? b=some u) (hp:h.objs.size<=a) (new:aL P w (upd H a o) h' a o):fR P w (upd H a o) h':=λb u e=>by
 have hn:=x.fresh hp
 by_cases hb:b=a
 .subst hb;rw[aB]at e;cases e;exact new
 .rw[ak hb]at e;exact(x b u e).jy (λc v _ q=>k c v q) (λc q=>by rw[ak (aQ q hn)];exact q) λc xs q=>by rw[ak (aQ q hn)];exact q
end
abbrev Rd (H:Hp)(a:Addr)(u:HO):Prop:=H a=some u\/∃ o,H a=some (.frz o u)
variable {P:Program}{w:World}{h:Heap}
def Rd.ok {u:HO}(r:Rd H a u)(x:fR P w H h):aL P w H h a u:=by
 rcases r with r|⟨o,r⟩
 .exact x a u r
 .obtain⟨_,q⟩:=x a _ r;exact q
abbrev GO:Option HO->Prop
 |some (.lst _)=>True
 |some (.dK _)=>True
 |some (.dT _)=>True
 |some (.set _ _)=>True
 |some (.ins _ _ _)=>True
 |some (.exc _ _ _ _)=>True
 |some (.ext _)=>True
 |_=>False
section
variable {P:Program}{w:World}{H:Hp}{h h':Heap}{x e:Addr}{o':HO}
def fR.write (ok:fR P w H h)(mu:GO (H x))(he:e=x\/H e=some (.own x))(k:∀ b u,b≠e->h.get? b=some u->h'.get? b=some u) (heo:∃ u,h'.get? e=some u)
  (new:aL P w (upd H x o') h' x o'):fR P w (upd H x o') h':=λb u q=>by
 have nown:∀ c y,H c=some (.own y)->c≠x:=λc y r z=>by subst z;rw[r]at mu;exact mu
 have ntup:∀ c xs,H c=some (.tup xs)->c≠x:=λc xs r z=>by subst z;rw[r]at mu;exact mu
 by_cases hb:b=x
 .subst hb;rw[aB]at q;cases q;exact new
 .rw[ak hb]at q
  by_cases hbe:b=e
  .have q':H b=some (.own x):=by
    rcases he with z|z
    .exact absurd (hbe.trans z) hb
    .rw[hbe];exact z
   rw[q]at q';cases q';obtain⟨v,hv⟩:=heo;exact⟨v,by rw[hbe];exact hv⟩
  .refine(ok b u q).jy (λc v hc r=>k c v ?_ r) (λc r=>by rw[ak (nown c b r)];exact r) λc xs r=>by rw[ak (ntup c xs r)];exact r
   rcases hc with rfl|hc
   .exact hbe
   .rintro rfl;rcases he with z|z
    .exact nown c b hc z
    .rw[hc]at z;cases z;exact hb rfl
end
structure Un (fs ex:List Addr) (H H':Hp) (h h':Heap):Prop where
 keep:∀ b o,h.get? b=some o->H b=none->b ∉ fs->b ∉ ex->h'.get? b=some o
 slot:∀ b o,h.get? b=some o->H b=none->b ∈ fs->b ∉ ex->∃ sl,h'.get? b=some { o with slots:=sl }
 free:∀ b o,h.get? b=some o->H b=none->b ∉ ex->H' b=none
 there:∀ b o,h.get? b=some o->b ∉ ex->∃ o',h'.get? b=some o'
 tups:∀ b xs,H b=some (.tup xs)->H' b=some (.tup xs)
 frzs:∀ b o u,H b=some (.frz o u)->H' b=some (.frz o u)
 tbls:∀ b ps,H b=some (.tbl ps)->∃ more,H' b=some (.tbl (ps++more))
section
variable {fs fs' ex ex':List Addr}{H H1 H2:Hp}{h h1 h2 h':Heap}{a x e:Addr}{o:HO}
def Un.any (u:Un fs ex H H1 h h1){ob:Obj}(q:h.get? b=some ob)(n:H b=none)(hx:b ∉ ex):∃ sl,h1.get? b=some { ob with slots:=sl }:=by
 by_cases hb:b ∈ fs
 .exact u.slot b ob q n hb hx
 .exact⟨ob.slots,u.keep b ob q n hb hx⟩
def Un.kept (k:∀ b u,h.get? b=some u->h'.get? b=some u):Un fs ex H H h h':=
 ⟨λb ob q _ _ _=>k b ob q,λb ob q _ _ _=>⟨ob.slots,k b ob q⟩,λ_ _ _ n _=>n,λb ob q _=>⟨ob,k b ob q⟩,λ_ _ q=>q,λ_ _ _ q=>q,λ_ ps q=>⟨#[],by rw[q];simp⟩⟩
def Un.refl:Un fs ex H H h h:=Un.kept λ_ _ q=>q
def Un.laid (k:∀ b u,h.get? b=some u->h'.get? b=some u) (hp:h.objs.size<=a) (hn:H a=none):Un fs ex H (upd H a o) h h' where
 keep:=λb u q _ _ _=>k b u q
 slot:=λb u q _ _ _=>⟨u.slots,k b u q⟩
 free:=λb u q n _=>by rw[ak (pc (nw (tz q) hp))];exact n
 there:=λb u q _=>⟨u,k b u q⟩
 tups:=λb xs q=>by rw[ak (aQ q hn)];exact q
 frzs:=λb u xs q=>by rw[ak (aQ q hn)];exact q
 tbls:=λb ps q=>⟨#[],by rw[ak (aQ q hn),q];simp⟩
def Un.write (mu:GO (H x))(he:e=x\/H e=some (.own x))(k:∀ b u,b≠e->h.get? b=some u->h'.get? b=some u) (heo:∃ u,h'.get? e=some u):Un fs ex H (upd H x o) h h':=by
 have hx:∀ b,H b=none->b≠x:=λb n z=>by subst z;rw[n]at mu;exact mu
 have hb:∀ b,H b=none->b≠e:=λb n z=>by
  subst z;rcases he with r|r
  .exact hx b n r
  .rw[n]at r;cases r
 have hm:∀ b u,H b=some u->¬ GO (some u)->b≠x:=λb u q nm z=>by subst z;rw[q]at mu;exact nm mu
 refine⟨λb u q n _ _=>k b u (hb b n) q,λb u q n _ _=>⟨u.slots,k b u (hb b n) q⟩,λb u q n _=>by rw[ak (hx b n)];exact n,λb u q _=>?_,
  λb xs q=>by rw[ak (hm b _ q λz=>z)];exact q,λb u xs q=>by rw[ak (hm b _ q λz=>z)];exact q,λb ps q=>⟨#[],by rw[ak (hm b _ q λz=>z),q];simp⟩⟩
 by_cases hbe:b=e
 .subst hbe;exact heo
 .exact⟨u,k b u hbe q⟩
end
abbrev C8 (h:Heap)(H:Hp):List Addr:=(List.range h.objs.size).filter λa=>(H a).isSome
abbrev nh (h:Heap)(H:Hp):Heap:=W.hideAll h (C8 h H)
def uU (h:Heap)(H:Hp):(nh h H).objs.size=h.objs.size:=W.hideAll_size _ _
def yP {o:Obj}(e:h.get? b=some o)(n:H b=none):(nh h H).get? b=some o:=
 W.hideAll_get _ e λhm=>by
  have q:(H b).isSome=true:=(List.mem_filter.mp hm).2;rw[n]at q;simp at q
def Ap {o:Obj}(e:(nh h H).get? b=some o):h.get? b=some o/\H b=none:=by
 have e':h.get? b=some o:=W.of_hideAll (C8 h H) e;refine⟨e',?_⟩;cases q:H b with
 |none=>rfl
 |some x=>
  have hm:b ∈ C8 h H:=List.mem_filter.mpr ⟨mem_range.mpr (tz e'),by simp[q]⟩;have z:(nh h H).get? b=none:=W.hideAll_none (C8 h H) hm;rw[z]at e;cases e
structure Mod (K:W.Frag) (mg:LG) (base:Heap):Prop where
 kin:K.In base
 glob:base.Ns mainGlobals mg
 blt:∃ mb,base.Ns builtinsNs mb/\∀ x:Str,x≠"__name__"->mb x=bootBuiltins x
 nolimit:base.NoLimit
/-- the context:a def's body (or a comprehension's block) running. base:fixed through the whole law;s₀,H₀:the entry;outer:the frames whose slots others may change (a def's callers);stack:all frames that run;
  ex:iterators that were made ahead of the entry and are walked here (a comprehension's);fn:the names whose cells were made at the entry (a def:all;a comprehension's block:its own);calm:not within an except bF;pn:Y that every state bears;xe:what is wanted of an exception that leaves the code -/
structure Cx where
 prog:Program
 w:World
 K:W.Frag
 mg:Str->Option Value
 base:Heap
 A:Around
 N:List Str
 s₀:Shared
 H₀:Hp
 env:Env
 outer:List Env
 stack:List Env
 ex:List Addr
 fn:Str->Bool
 calm:Bool
 pn:List (Addr×Obj)
 xe:Value->Shared->Prop
abbrev nv (l:List Env):List Addr:=l.filterMap (·.frame)
noncomputable abbrev Cx.fs (X:Cx):List Addr:=nv X.outer
abbrev IC (sc:Scope)(x:Str):Prop:=sc.names.lookup x=some .local\/sc.names.lookup x=some .cell\/sc.names.lookup x=some .free
abbrev Loc (sc:Scope)(x:Str):Prop:=sc.names.lookup x=some .local\/sc.names.lookup x=some .cell
abbrev Look (env:Env)(h:Heap)(m:LG)(x:Str)(u:Value):Prop:=
 (env.kindOf x=some .local/\m x=some u)\/((env.kindOf x=some .cell\/env.kindOf x=some .free)/\∃ c,env.cells.lookup x=some c/\h.IsCell c (some u))
structure Cx.Ok (X:Cx):Prop where
 mod:Mod X.K X.mg X.base
 kind:X.env.scope.kind=.function
 glob:X.env.globals=mainGlobals
 blt:X.env.builtins=builtinsNs
 above:X.s₀.heap.objs.size<=X.env.locals
 inj:∀ x y c,X.env.cells.lookup x=some c->X.env.cells.lookup y=some c->x=y
 has:∀ x,(X.env.kindOf x=some .cell\/X.env.kindOf x=some .free)->∃ c,X.env.cells.lookup x=some c
 cab:∀ x c,X.fn x=true->X.env.cells.lookup x=some c->X.s₀.heap.objs.size<=c
 hd:X.calm=true->X.A.handled=none
 frames:X.A.frames=some X.stack
 stk:X.stack=X.outer\/(X.stack=X.env::X.outer/\X.env.frame=some X.env.locals)
 exf:∀ b ∈ X.ex,b≠X.env.locals/\∀ x c,X.env.cells.lookup x=some c->c≠b
 bs:∀ b o,X.base.get? b=some o->X.s₀.heap.get? b=some o/\X.H₀ b=none
 bsz:X.base.objs.size<=X.s₀.heap.objs.size
 noex:∀ b o,X.base.get? b=some o->b ∉ X.ex
 exfs:∀ b ∈ X.ex,b ∉ X.fs
 js:X.s₀.heap.FunFrames X.base X.outer
 frf:∀ b ∈ X.fs,X.H₀ b=none
structure Inv (X:Cx) (Y:LF) (U:List (Option V)) (H:Hp) (s:Shared):Prop where
 ok:X.Ok
 os:s.os=X.s₀.os
 bare:AllBare s.gens
 base:Un X.fs X.ex X.H₀ H X.s₀.heap s.heap
 loc:∃ m,s.heap.Ns X.env.locals m/\∀ (i:Nat) (x:Str) (v:V),X.N[i]? =some x->U[i]? =some (some v)->IC X.env.scope x->∃ u,RelV v u/\Look X.env s.heap m x u
 cell:∀ x c,X.env.cells.lookup x=some c->∃ v,s.heap.IsCell c v
 free:H X.env.locals=none
 freeC:∀ x c,X.env.cells.lookup x=some c->H c=none
 pin:∀ p ∈ X.pn++Y,s.heap.get? p.1=some p.2/\H p.1=none/\p.1≠X.env.locals/\p.1 ∉ X.fs/\∀ v,p.2.data≠.cell v
 hok:fR X.prog X.w H s.heap
 len:U.length=X.N.length
variable {x:Str}{g':Array GenState}{ch:List Addr}{i:Nat}{M:Model}{A:Around}{E:LD}{v:V}
section
variable {X:Cx}{Y:LF}{U:List (Option V)}{H H':Hp}{s:Shared}{h':Heap}
def Cx.Ok.Kk (ok:X.Ok){o:Obj}(e:X.base.get? b=some o):b ∉ X.fs:=λhb=>by
 have:=(ok.js.mem hb).1;rw[e]at this;cases this
def Inv.bs (I:Inv X Y U H s):∀ b o,X.base.get? b=some o->s.heap.get? b=some o/\H b=none:=λb o e=>
 ⟨I.base.keep b o (I.ok.bs b o e).1 (I.ok.bs b o e).2 (I.ok.Kk e) (I.ok.noex b o e),I.base.free b o (I.ok.bs b o e).1 (I.ok.bs b o e).2 (I.ok.noex b o e)⟩
def Inv.bk (I:Inv X Y U H s):∀ b o,X.base.get? b=some o->s.heap.get? b=some o:=λb o e=>(I.bs b o e).1
def Inv.mod (I:Inv X Y U H s):Mod X.K X.mg X.base:=I.ok.mod
def Inv.bL (I:Inv X Y U H s):X.K.In s.heap:=I.ok.mod.kin.keeps I.bk
def Inv.lt (I:Inv X Y U H s):X.env.locals<s.heap.objs.size:=let⟨_,hn,_⟩:=I.loc;hn.lt
def Inv.sz (I:Inv X Y U H s):X.s₀.heap.objs.size<=s.heap.objs.size:=Nat.le_trans I.ok.above (Nat.le_of_lt I.lt)
def Inv.Ka (I:Inv X Y U H s)(h:s.heap.objs.size<=a):a ∉ X.fs:=λhb=>by
 obtain⟨_,o,ho,_⟩:=I.ok.js.mem hb;exact absurd (nw (tz ho) (Nat.le_trans I.sz h)) (Nat.lt_irrefl _)
def Inv.wj (I:Inv X Y U H s):∀ x c,X.env.cells.lookup x=some c->c≠X.env.locals:=λx c e z=>by
 obtain⟨v,o,ho,hd⟩:=I.cell x c e;obtain⟨m,⟨o',es,ep,ho',hd',_⟩,_⟩:=I.loc;rw[z,ho']at ho;cases ho;rw[hd']at hd;cases hd
def Inv.js (I:Inv X Y U H s):s.heap.FunFrames X.base X.outer:=by
 have all:∀ (l:List Env),(∀ b ∈ nv l,b ∈ X.fs)->X.s₀.heap.FunFrames X.base l->s.heap.FunFrames X.base l:=by
  intro l
  induction l with
  |nil=>intro _ _;trivial
  |cons env r ih=>
   intro hs hl;obtain⟨hk,⟨L,o,hf,hn,ho,hd⟩,hr⟩:=hl;have hL:L ∈ X.fs:=hs L (by unfold nv;rw[filterMap_cons,hf];exact lw);obtain⟨sl,e⟩:=I.base.slot L o ho (I.ok.frf L hL) hL λz=>I.ok.exfs L z hL
   exact⟨hk,⟨L,_,hf,hn,e,hd⟩,ih (λb hb=>hs b (by unfold nv;rw[filterMap_cons,hf];exact dl _ hb)) hr⟩
 exact all X.outer (λ_ hb=>hb) I.ok.js
def Inv.stack (I:Inv X Y U H s):s.heap.FunFrames X.base X.stack:=by
 rcases I.ok.stk with e|⟨e,hf⟩
 .rw[e];exact I.js
 .rw[e];obtain⟨m,hn,_⟩:=I.loc;refine .cons (by rw[I.ok.kind];decide) hf hn ?_ I.js;exact Heap.get?_none_of_le (Nat.le_trans I.ok.bsz I.ok.above)
def Inv.ik (I:Inv X Y U H s):∀ b ∈ nv X.stack,b ∈ X.env.locals::X.fs:=λb hb=>by
 rcases I.ok.stk with e|⟨e,hf⟩
 .rw[e]at hb;exact dl _ hb
 .rw[e]at hb;unfold nv at hb;rw[filterMap_cons,hf]at hb;exact hb
def Inv.mW (I:Inv X Y U H s):∀ b ∈ nv X.stack,H b=none:=λb hb=>by
 rcases mo.mp (I.ik b hb) with e|hb
 .rw[e];exact I.free
 .obtain⟨_,o,ho,_⟩:=I.ok.js.mem hb;exact I.base.free b o ho (I.ok.frf b hb) λz=>I.ok.exfs b z hb
def Inv.step {t':Nat}{d':Drawn}(I:Inv X Y U H s)
  (hch:∀ b ∈ ch,(b ∈ X.ex\/X.s₀.heap.objs.size<=b)/\b≠X.env.locals/\(∀ x c,X.env.cells.lookup x=some c->c≠b)/\∀ p ∈ X.pn++Y,p.1≠b)
  (keep:∀ b o,b≠X.env.locals->b ∉ X.fs->b ∉ ch->s.heap.get? b=some o->H b=none->h'.get? b=some o)
  (slot:∀ b o,b≠X.env.locals->b ∈ X.fs->b ∉ ch->s.heap.get? b=some o->H b=none->∃ sl,h'.get? b=some { o with slots:=sl }) (free:∀ b o,b ∉ ch->s.heap.get? b=some o->H b=none->H' b=none)
  (there:∀ b o,b ∉ ch->s.heap.get? b=some o->∃ o',h'.get? b=some o')
  (tups:∀ b xs,H b=some (.tup xs)->H' b=some (.tup xs)) (frzs:∀ b o u,H b=some (.frz o u)->H' b=some (.frz o u)) (tbls:∀ b ps,H b=some (.tbl ps)->∃ more,H' b=some (.tbl (ps++more)))
  (ns:∀ m,s.heap.Ns X.env.locals m->h'.Ns X.env.locals m) (hok:fR X.prog X.w H' h') (hg:AllBare g'):
  Inv X Y U H' { s with heap:=h',gens:=g',drawn:=d',toks:=t' }:=by
 have neL:∀ b o,X.s₀.heap.get? b=some o->b≠X.env.locals:=λb o e=>pc (nw (tz e) I.ok.above)
 have neC:∀ b o,X.s₀.heap.get? b=some o->b ∉ X.ex->b ∉ ch:=λb o e hx hb=>by
  rcases(hch b hb).1 with z|z
  .exact hx z
  .exact absurd (nw (tz e) z) (Nat.lt_irrefl _)
 have cellK:∀ x c,X.env.cells.lookup x=some c->∀ v,s.heap.IsCell c v->h'.IsCell c v:=λx c e v ⟨o,ho,hd⟩=>by
  have nch:c ∉ ch:=λz=>(hch c z).2.2.1 x c e rfl
  by_cases hc:c ∈ X.fs
  .obtain⟨sl,q⟩:=slot c o (I.wj x c e) hc nch ho (I.freeC x c e);exact⟨_,q,hd⟩
  .exact⟨o,keep c o (I.wj x c e) hc nch ho (I.freeC x c e),hd⟩
 refine⟨I.ok,I.os,hg,⟨λb o e n hb hx=>?_,λb o e n hb hx=>?_,λb o e n hx=>?_,λb o e hx=>?_,λb xs e=>tups b xs (I.base.tups b xs e),λb o xs e=>frzs b o xs (I.base.frzs b o xs e),λb ps e=>?_⟩,?_,λx c e=>?_,?_,λx c e=>?_,λp hp=>?_,hok,I.len⟩
 .exact keep b o (neL b o e) hb (neC b o e hx) (I.base.keep b o e n hb hx) (I.base.free b o e n hx)
 .obtain⟨sl,e1⟩:=I.base.slot b o e n hb hx;obtain⟨sl',e2⟩:=slot b _ (neL b o e) hb (neC b o e hx) e1 (I.base.free b o e n hx);exact⟨sl',e2⟩
 .obtain⟨o',e1⟩:=I.base.there b o e hx;exact free b o' (neC b o e hx) e1 (I.base.free b o e n hx)
 .obtain⟨o',e1⟩:=I.base.there b o e hx;exact there b o' (neC b o e hx) e1
 .obtain⟨m1,e1⟩:=I.base.tbls b ps e;obtain⟨m2,e2⟩:=tbls b _ e1;exact⟨m1++m2,by rw[e2,Array.append_assoc]⟩
 .obtain⟨m,hn,hl⟩:=I.loc;refine⟨m,ns m hn,λi x v e1 e2 e3=>?_⟩;obtain⟨u,r,l⟩:=hl i x v e1 e2 e3;refine⟨u,r,?_⟩;rcases l with l|⟨k,c,e,z⟩
  .exact .inl l
  .exact .inr ⟨k,c,e,cellK x c e _ z⟩
 .obtain⟨v,z⟩:=I.cell x c e;exact⟨v,cellK x c e v z⟩
 .obtain⟨m,⟨o,_,_,ho,_⟩,_⟩:=I.loc;exact free _ o (λz=>(hch _ z).2.1 rfl) ho I.free
 .obtain⟨v,o,ho,hd⟩:=I.cell x c e;exact free c o (λz=>(hch c z).2.2.1 x c e rfl) ho (I.freeC x c e)
 .obtain⟨e,n,ne,nf,d⟩:=I.pin p hp;have nch:p.1 ∉ ch:=λz=>(hch p.1 z).2.2.2 p hp rfl
  exact⟨keep p.1 p.2 ne nf nch e n,free p.1 p.2 nch e n,ne,nf,d⟩
def Inv.un {t':Nat}(I:Inv X Y U H s)(u:Un X.fs [] H H' s.heap h')(hok:fR X.prog X.w H' h'):Inv X Y U H' { s with heap:=h',toks:=t' }:=by
 obtain⟨m,⟨o,es,ep,ho,r⟩,_⟩:=id I.loc;obtain⟨sl,hL⟩:=u.any ho I.free (by simp);exact I.step (g':=s.gens) (d':=s.drawn) (ch:=[]) (λ_ z=>nomatch z) (λb o _ hb _ e n=>u.keep b o e n hb (by simp)) (λb o _ hb _ e n=>u.slot b o e n hb (by simp)) (λb o _ e n=>u.free b o e n (by simp)) (λb o _ e=>u.there b o e (by simp)) u.tups u.frzs u.tbls (λm' hm=>by
  obtain⟨o',es',ep',ho',r'⟩:=hm;rw[ho]at ho';cases ho';exact⟨_,es',ep',hL,r'⟩) hok I.bare
def Inv.call {t':Nat}{d':Drawn}(I:Inv X Y U H s)(u:Un (nv X.stack) ch H H' s.heap h')(hok:fR X.prog X.w H' h')(hg:AllBare g')
  (hch:∀ b ∈ ch,(b ∈ X.ex\/X.s₀.heap.objs.size<=b)/\b≠X.env.locals/\(∀ x c,X.env.cells.lookup x=some c->c≠b)/\∀ p ∈ X.pn++Y,p.1≠b):
  Inv X Y U H' { s with heap:=h',gens:=g',drawn:=d',toks:=t' }:=by
 obtain⟨m,⟨o,es,ep,ho,r⟩,_⟩:=id I.loc;obtain⟨sl,hL⟩:=u.any ho I.free λz=>(hch _ z).2.1 rfl
 exact I.step (ch:=ch) hch (λb o hL hb hc e n=>u.keep b o e n (λz=>(mo.mp (I.ik b z)).elim hL hb) hc) (λb o _ _ hc e n=>u.any e n hc) (λb o hc e n=>u.free b o e n hc) (λb o hc e=>u.there b o e hc) u.tups u.frzs u.tbls (λm' hm=>by
  obtain⟨o',es',ep',ho',r'⟩:=hm;rw[ho]at ho';cases ho';exact⟨_,es',ep',hL,r'⟩) hok hg
def Inv.turned {t':Nat}{it:Addr}(I:Inv X Y U H s)(k:∀ b o,b≠it->s.heap.get? b=some o->h'.get? b=some o) (hn:H it=none) (hL:it≠X.env.locals)
  (h1:it ∈ X.ex\/X.s₀.heap.objs.size<=it) (h2:∀ x c,X.env.cells.lookup x=some c->c≠it) (h3:∀ p ∈ X.pn++Y,p.1≠it):Inv X Y U H { s with heap:=h',toks:=t' }:=by
 have nit:∀ b u,H b=some u->b≠it:=λb u e z=>by rw[z,hn]at e;cases e
 refine I.step (g':=s.gens) (d':=s.drawn) (ch:=[it]) (λb hb=>?_) (λb o _ _ hc e _=>k b o (λz=>hc (by simp[z])) e) (λb o _ _ hc e _=>⟨o.slots,k b o (λz=>hc (by simp[z])) e⟩) (λ_ _ _ _ n=>n)
  (λb o hc e=>⟨o,k b o (λz=>hc (by simp[z])) e⟩) (λ_ _ e=>e) (λ_ _ _ e=>e) (λb ps e=>⟨#[],by rw[e];simp⟩) (λm hm=>?_) (λb u e=>?_) I.bare
 .have e:b=it:=by simpa using hb
  subst e;exact⟨h1,hL,h2,h3⟩
 .obtain⟨o,es,ep,ho,r⟩:=hm;exact⟨o,es,ep,k _ o (Ne.symm hL) ho,r⟩
 .refine(I.hok b u e).jy (λc v hc q=>k c v ?_ q) (λ_ q=>q) λ_ _ q=>q
  rcases hc with z|z
  .rw[z];exact nit b u e
  .exact nit c _ z
def Inv.tok (I:Inv X Y U H s)(t:Nat):Inv X Y U H { s with toks:=t }:=I.un (h':=s.heap) (t':=t) Un.refl I.hok
def Inv.kept {t':Nat}(I:Inv X Y U H s)(k:∀ b u,s.heap.get? b=some u->h'.get? b=some u):Inv X Y U H { s with heap:=h',toks:=t' }:=I.un (Un.kept k) (I.hok.kept k)
def Inv.laid {t':Nat}(I:Inv X Y U H s)(k:∀ b u,s.heap.get? b=some u->h'.get? b=some u) (hp:s.heap.objs.size<=a) (new:aL X.prog X.w (upd H a o) h' a o):
  Inv X Y U (upd H a o) { s with heap:=h',toks:=t' }:=I.un (Un.laid k hp (I.hok.fresh hp)) (I.hok.laid k hp new)
def Inv.write {x e:Addr}{t':Nat}(I:Inv X Y U H s)(mu:GO (H x))(he:e=x\/H e=some (.own x))(k:∀ b u,b≠e->s.heap.get? b=some u->h'.get? b=some u) (heo:∃ u,h'.get? e=some u)
  (new:aL X.prog X.w (upd H x o) h' x o):Inv X Y U (upd H x o) { s with heap:=h',toks:=t' }:=I.un (Un.write mu he k heo) (I.hok.write mu he k heo new)
def Inv.oj {pins':LF}(I:Inv X Y U H s)(h:∀ p ∈ pins',s.heap.get? p.1=some p.2/\H p.1=none/\p.1≠X.env.locals/\p.1 ∉ X.fs/\∀ v,p.2.data≠.cell v):Inv X pins' U H s:=
 ⟨I.ok,I.os,I.bare,I.base,I.loc,I.cell,I.free,I.freeC,λp hp=>(mem_append.mp hp).elim (λz=>I.pin p (mem_append_left _ z)) (h p),I.hok,I.len⟩
def j9 {N:List Str}(hN:N.Nodup){j:Nat}(a:N[i]? =some x)(b:N[j]? =some x):i=j:=by
 obtain⟨h1,e1⟩:=sw.mp a;obtain⟨h2,e2⟩:=sw.mp b;exact(List.getElem_inj hN).mp (e1.trans e2.symm)
variable {Q:LB}
def mJ (I:Inv X Y U H s)(hN:X.N.Nodup)(hi:X.N[i]? =some x)(hx:Loc X.env.scope x)(r:RelV v u)
  (h:∀ s',Inv X Y (U.set i (some v)) H s'->(∃ a,Heap.SameBut a s.heap s'.heap/\(a=X.env.locals\/X.env.cells.lookup x=some a))->Q () s') (hf:X.fn x=true\/X.env.scope.names.lookup x=some .local:=by first|exact .inl rfl|exact .inr rfl|assumption):wpAny M A (storeName X.env x u) Q E s:=by
 obtain⟨m,hn,hl⟩:=id I.loc;have hcls:(X.env.scope.kind ==.class||(X.env.scope.kind ==.module&&X.env.locals != X.env.globals))=false:=by rw[I.ok.kind];rfl
 have hiσ:i<U.length:=by rw[I.len];exact(sw.mp hi).1
 have wj:=I.wj;have tracked:∀ {a:Addr}{h':Heap},(∃ o,s.heap.get? a=some o/\H a=none)->Heap.SameBut a s.heap h'->fR X.prog X.w H h':=λ{a h'} ha hs b ob e=>by
  obtain⟨_,_,hfree⟩:=ha;refine(I.hok b ob e).jy (λc w' hc q=>(hs.2 c ?_).trans q) (λ_ q=>q) λ_ _ q=>q
  rintro rfl;rcases hc with rfl|hc
  .rw[hfree]at e;cases e
  .rw[hfree]at hc;cases hc
 rcases hx with hk|hk
 .refine wpAny_storeName_local hk hn (λh' hn' hs=>?_) hcls;obtain⟨oL,_,_,hoL,_⟩:=id hn;refine h _ ⟨I.ok,I.os,I.bare,⟨λb o e n hb hx=>?_,λb o e n hb hx=>?_,I.base.free,λb o e hx=>?_,I.base.tups,I.base.frzs,I.base.tbls⟩,⟨_,hn',λj y v' e1 e2 e3=>?_⟩,λy c e=>?_,I.free,I.freeC,λp hp=>?_,tracked ⟨oL,hoL,I.free⟩ hs,by simpa using I.len⟩ ⟨_,hs,.inl rfl⟩
  .exact(hs.2 b (pc (nw (tz e) I.ok.above))).trans (I.base.keep b o e n hb hx)
  .obtain⟨sl,e1⟩:=I.base.slot b o e n hb hx;exact⟨sl,(hs.2 b (pc (nw (tz e) I.ok.above))).trans e1⟩
  .obtain⟨o',e1⟩:=I.base.there b o e hx;exact⟨o',(hs.2 b (pc (nw (tz e) I.ok.above))).trans e1⟩
  .by_cases hj:j=i
   .subst hj;rw[hi]at e1;cases e1;rw[getElem?_set_self hiσ]at e2;cases e2;exact⟨u,r,.inl ⟨hk,by simp⟩⟩
   .rw[getElem?_set_ne (Ne.symm hj)]at e2;obtain⟨u',r',q⟩:=hl j y v' e1 e2 e3;refine⟨u',r',?_⟩;rcases q with⟨k,e⟩|⟨k,c,e,z⟩
    .refine .inl ⟨k,?_⟩;have:y≠x:=λe=>hj (j9 hN e1 (e▸hi))
     simp[this,e]
    .exact .inr ⟨k,c,e,z.sameBut hs (wj y c e)⟩
  .obtain⟨w',z⟩:=I.cell y c e;exact⟨w',z.sameBut hs (wj y c e)⟩
  .obtain⟨e,n,ne,nf,d⟩:=I.pin p hp;exact⟨(hs.2 p.1 ne).trans e,n,ne,nf,d⟩
 .have hfn:X.fn x=true:=by
   rcases hf with z|z
   .exact z
   .rw[z]at hk;cases hk
  obtain⟨c,hc⟩:=I.ok.has x (.inl hk);obtain⟨w',z⟩:=I.cell x c hc;refine wpAny_storeName_cell I.ok.kind hk hc z (λh' hc' hs=>?_);obtain⟨oc,hoc,hocd⟩:=id z;refine h { s with heap:=h' } ⟨I.ok,I.os,I.bare,⟨λb o e n hb hx=>?_,λb o e n hb hx=>?_,I.base.free,λb o e hx=>?_,I.base.tups,I.base.frzs,I.base.tbls⟩,⟨m,hn.sameBut hs (Ne.symm (wj x c hc)),λj y v' e1 e2 e3=>?_⟩,λy c' e=>?_,I.free,I.freeC,λp hp=>?_,tracked ⟨oc,hoc,I.freeC x c hc⟩ hs,by simpa using I.len⟩ ⟨c,hs,.inr hc⟩
  .exact(hs.2 b (pc (nw (tz e) (I.ok.cab x c hfn hc)))).trans (I.base.keep b o e n hb hx)
  .obtain⟨sl,e1⟩:=I.base.slot b o e n hb hx;exact⟨sl,(hs.2 b (pc (nw (tz e) (I.ok.cab x c hfn hc)))).trans e1⟩
  .obtain⟨o',e1⟩:=I.base.there b o e hx;exact⟨o',(hs.2 b (pc (nw (tz e) (I.ok.cab x c hfn hc)))).trans e1⟩
  .by_cases hj:j=i
   .subst hj;rw[hi]at e1;cases e1;rw[getElem?_set_self hiσ]at e2;cases e2;exact⟨u,r,.inr ⟨.inl hk,c,hc,hc'⟩⟩
   .rw[getElem?_set_ne (Ne.symm hj)]at e2;obtain⟨u',r',q⟩:=hl j y v' e1 e2 e3;refine⟨u',r',?_⟩;rcases q with q|⟨k,c',e,z'⟩
    .exact .inl q
    .refine .inr ⟨k,c',e,z'.sameBut hs ?_⟩;rintro rfl;exact hj (j9 hN e1 (I.ok.inj _ _ _ e hc▸hi))
  .by_cases hcc:c'=c
   .subst hcc;exact⟨_,hc'⟩
   .obtain⟨w2,z2⟩:=I.cell y c' e;exact⟨w2,z2.sameBut hs hcc⟩
  .obtain⟨e,n,ne,nf,d⟩:=I.pin p hp;refine⟨(hs.2 p.1 ?_).trans e,n,ne,nf,d⟩;intro q;rw[q,hoc]at e;have q':oc=p.2:=Option.some.inj e;exact d w' (by rw[<-q'];exact hocd)
def bp (I:Inv X Y U H s)(hN:X.N.Nodup)(hi:X.N[i]? =some x)(hx:Loc X.env.scope x)(r:RelV v u)
  (h:∀ s',Inv X Y (U.set i (some v)) H s'->Q () s') (hf:X.fn x=true\/X.env.scope.names.lookup x=some .local:=by first|exact .inl rfl|exact .inr rfl|assumption):wpAny M A (storeName X.env x u) Q E s:=
 mJ I hN hi hx r (λs' I' _=>h s' I') hf
def Inv.xV {s':Shared}(I:Inv X Y U H s)(ho:s'.os=s.os)(u:Un (nv X.stack) ch H H' s.heap s'.heap)(hok:fR X.prog X.w H' s'.heap)(hg:AllBare s'.gens)
  (hch:∀ b ∈ ch,(b ∈ X.ex\/X.s₀.heap.objs.size<=b)/\b≠X.env.locals/\(∀ x c,X.env.cells.lookup x=some c->c≠b)/\∀ p ∈ X.pn++Y,p.1≠b):Inv X Y U H' s':=by
 obtain⟨h',g',d',t',o'⟩:=s';have e:o'=s.os:=ho;subst e;exact I.call (g':=g') (t':=t') (d':=d') u hok hg hch
end
@[reducible]def XK:=Addr->Hp->Prop
@[reducible]def St:=List (Option V)
@[reducible]def VK:=V->Hp->Prop
@[reducible]def TE:=St->Hp->VK->Prop
@[reducible]def TT:=St->Hp->(Bool->Hp->Prop)->Prop
@[reducible]def TA:=St->Hp->(List V->Hp->Prop)->Prop
structure Ends where
 nx:St->Hp->Prop
 rt:VK
 bk:St->Hp->Prop:=λ_ _=>False
 ct:St->Hp->Prop:=λ_ _=>False
@[reducible]def TS:=Ends->St->Hp->Prop
abbrev EP (X:Cx)(Y:LF)(U:St)(Q:VK)(u:Value)(s':Shared):Prop:=∃ v H',Inv X Y U H' s'/\RelV v u/\Q v H'
abbrev TP (X:Cx)(Y:LF)(U:St)(Q:Bool->Hp->Prop)(b:Bool)(s':Shared):Prop:=∃ H',Inv X Y U H' s'/\Q b H'
abbrev AP (X:Cx)(Y:LF)(U:St)(Q:List V->Hp->Prop)(us:List Value)(s':Shared):Prop:=∃ vs H',Inv X Y U H' s'/\Vals vs us/\Q vs H'
abbrev SP (X:Cx)(Y:LF)(D:Ends)(f:Flow)(s':Shared):Prop:=
 match f with
 | .next=>∃ σ' H',Inv X Y σ' H' s'/\D.nx σ' H'
 | .brk=>∃ σ' H',Inv X Y σ' H' s'/\D.bk σ' H'
 | .cont=>∃ σ' H',Inv X Y σ' H' s'/\D.ct σ' H'
 | .ret u=>∃ v σ' H',Inv X Y σ' H' s'/\RelV v u/\D.rt v H'
abbrev PE (X:Cx)(e:Expr)(t:TE):Prop:=
 ∀ (Y:LF) (s:Shared) (U:St) (H:Hp) (Q:VK),Inv X Y U H s->t U H Q->wpAny (model X.prog X.w) X.A (eval e X.env) (EP X Y U Q) X.xe s
abbrev PT (X:Cx)(e:Expr)(t:TT):Prop:=
 ∀ (Y:LF) (s:Shared) (U:St) (H:Hp) (Q:Bool->Hp->Prop),Inv X Y U H s->t U H Q->wpAny (model X.prog X.w) X.A (isTrue e X.env (eval e X.env)) (TP X Y U Q) X.xe s
abbrev PW (X:Cx)(e:Expr)(t:TT):Prop:=
 ∀ (whole:Sem Value) (Y:LF) (s:Shared) (U:St) (H:Hp) (Q:Bool->Hp->Prop),Inv X Y U H s->t U H Q->wpAny (model X.prog X.w) X.A (isTrue e X.env whole) (TP X Y U Q) X.xe s
variable {e:Expr}
def PW.pt {X:Cx}{t:TT}(h:PW X e t):PT X e t:=h _
abbrev PA (X:Cx)(es:List Expr)(t:TA):Prop:=
 ∀ (pos:Pos) (Y:LF) (s:Shared) (U:St) (H:Hp) (Q:List V->Hp->Prop),Inv X Y U H s->t U H Q->wpAny (model X.prog X.w) X.A (spliced (backTo pos (bm es X.env))) (AP X Y U Q) X.xe s
abbrev PS (X:Cx)(st:Stmt)(t:TS):Prop:=
 ∀ (Y:LF) (s:Shared) (U:St) (H:Hp) (D:Ends),Inv X Y U H s->t D U H->wpAny (model X.prog X.w) X.A (exec st X.env) (SP X Y D) X.xe s
abbrev BY (X:Cx)(st:List Stmt)(t:TS):Prop:=
 ∀ (Y:LF) (s:Shared) (U:St) (H:Hp) (D:Ends),Inv X Y U H s->t D U H->wpAny (model X.prog X.w) X.A (execs st X.env) (SP X Y D) X.xe s
variable {s:Shared}
def aA {α:Type}{t:Sem α}{Q Q':α->Shared->Prop}(h:wpAny M A t Q E s)(hQ:∀ a s,Q a s->Q' a s):wpAny M A t Q' E s:=wpAny_mono h hQ λ_ _ x=>x
variable {Q:LD}{Y:LF}{U:St}{c:Expr}
section
variable {X:Cx}
abbrev J3 (i:Nat):TE:=λU H Q=>∃ v,U[i]? =some (some v)/\Q v H
abbrev tC (v:V):TE:=λ_ H Q=>Q v H
def EE {pos:Pos}(hN:X.N[i]? =some x)(hv:IC X.env.scope x)(hd:(x ==("__debug__":Str))=false:=by decide) (hcd:(x ==("__classdict__":Str))=false:=by decide):PE X (.Name x pos) (J3 i):=by
 intro Y s U H Q I h;obtain⟨v,e,h⟩:=h;obtain⟨m,hn,hl⟩:=I.loc;obtain⟨u,r,l⟩:=hl i x v hN e hv;have fin:EP X Y U Q u s:=⟨v,H,I,r,h⟩;rcases l with⟨hk,hm⟩|⟨hk,c,hc,hcell⟩
 .exact wpAny_Name (wpAny_loadName_local I.ok.kind hk hn hm fin) hd
 .rcases hk with hk|hk
  .exact wpAny_Name (wpAny_loadName_cell I.ok.kind hk hc hcell fin) hd
  .exact wpAny_Name (wpAny_loadName_free I.ok.kind hk hc hcell fin hcd) hd
def DI {i j pos}:PE X (.Constant (.int i) j pos) (tC (.int i)):=λ_ _ _ H _ I h=>wpAny_Constant_int ⟨.int i,H,I.tok _,⟨_,rfl⟩,h⟩
def Ig {b j pos}:PE X (.Constant (.bool b) j pos) (tC (.bl b)):=λ_ _ _ H _ I h=>Constant_bool ⟨.bl b,H,I,rfl,h⟩
def Eo {j pos}:PE X (.Constant .none j pos) (tC .non):=λ_ _ _ H _ I h=>Constant_none ⟨.non,H,I,rfl,h⟩
def zl {x j pos}:PE X (.Constant (.str x) j pos) (tC (.str x)):=λ_ _ _ H _ I h=>Calls.Constant_str ⟨.str x,H,I.tok _,⟨_,rfl⟩,h⟩
abbrev Gl (X:Cx)(x:Str):Prop:=X.env.kindOf x=some .globalImplicit
def bt {pos:Pos}(I:Inv X Y U H s)(hg:Gl X x)(hm:X.mg x=some u)(h:Q u s)
  (hd:(x ==("__debug__":Str))=false:=by decide):wpAny (model X.prog X.w) X.A (eval (.Name x pos) X.env) Q E s:=
 Calls.Name_function_global I.ok.kind hg (Calls.loadGlobal_global (by rw[I.ok.glob];exact I.mod.glob.keeps I.bk) hm h) hd
def cB {pos:Pos}(I:Inv X Y U H s)(hg:Gl X x)(hm:X.mg x=none)(hv:bootBuiltins x=some u)(h:Q u s)
  (hn:x≠"__name__":=by decide) (hd:(x ==("__debug__":Str))=false:=by decide):wpAny (model X.prog X.w) X.A (eval (.Name x pos) X.env) Q E s:=by
 obtain⟨mb,h1,h2⟩:=I.mod.blt;exact Calls.Name_function_global I.ok.kind hg (Calls.loadGlobal_builtin (by rw[I.ok.glob];exact I.mod.glob.keeps I.bk) hm (by rw[I.ok.blt];exact h1.keeps I.bk) ((h2 x hn).trans hv) h) hd
def uw {pos:Pos}(hg:Gl X x)(hm:X.mg x=some u)(r:RelV v u)(hd:(x ==("__debug__":Str))=false:=by decide):PE X (.Name x pos) (tC v):=
 λ_ _ _ H _ I h=>bt I hg hm ⟨v,H,I,r,h⟩ hd
def Cj {pos:Pos}(hg:Gl X x)(hm:X.mg x=none)(hv:bootBuiltins x=some u)(r:RelV v u)(hn:x≠"__name__":=by decide) (hd:(x ==("__debug__":Str))=false:=by decide):PE X (.Name x pos) (tC v):=
 λ_ _ _ H _ I h=>cB I hg hm hv ⟨v,H,I,r,h⟩ hn hd
variable {a b:Expr}{ta tb:TE}{pos:Pos}
variable {tA tB':TT}{rest:List Expr}
abbrev Jo (t u:TT):TT:=λU H Q=>t U H λc H1=>if c=true then u U H1 Q else Q false H1
abbrev K5 (t u:TT):TT:=λU H Q=>t U H λc H1=>if c=true then Q true H1 else u U H1 Q
abbrev Kl (t:TT):TT:=λU H Q=>t U H λc H1=>Q (!c) H1
def B9 (ha:PT X a tA):PW X (.BoolOp .And [a] pos) tA:=by
 intro wh Y s U H Q I h;refine isTrue_and (aA (ha Y s U H Q I h) λc s1 e=>?_);cases c with
 |true=>exact isTrue_and_nil e
 |false=>exact e
def DJ (ha:PT X a tA):PW X (.BoolOp .Or [a] pos) tA:=by
 intro wh Y s U H Q I h;refine isTrue_or (aA (ha Y s U H Q I h) λc s1 e=>?_);cases c with
 |false=>exact isTrue_or_nil e
 |true=>exact e
def FT (ha:PT X a tA)(hb:PW X (.BoolOp .And (b::rest) pos) tB'):PW X (.BoolOp .And (a::b::rest) pos) (Jo tA tB'):=by
 intro wh Y s U H Q I h;refine isTrue_and (aA (ha Y s U H _ I h) λc s1 ⟨H1,I1,q1⟩=>?_);cases c with
 |true=>exact hb wh Y s1 U H1 Q I1 q1
 |false=>exact⟨H1,I1,q1⟩
def GW (ha:PT X a tA)(hb:PW X (.BoolOp .Or (b::rest) pos) tB'):PW X (.BoolOp .Or (a::b::rest) pos) (K5 tA tB'):=by
 intro wh Y s U H Q I h;refine isTrue_or (aA (ha Y s U H _ I h) λc s1 ⟨H1,I1,q1⟩=>?_);cases c with
 |true=>exact⟨H1,I1,q1⟩
 |false=>exact hb wh Y s1 U H1 Q I1 q1
def Fh (ha:PT X a tA):PT X (.UnaryOp .Not a pos) (Kl tA):=by
 intro Y s U H Q I h;exact isTrue_not (ha Y s U H (λc H1=>Q (!c) H1) I h)
abbrev Gf (ta tb:TE):TE:=λU H Q=>ta U H λx H1=>∃ c,x=.bl c/\if c=true then tb U H1 Q else Q (.bl false) H1
abbrev Km (ta tb:TE):TE:=λU H Q=>ta U H λx H1=>∃ c,x=.bl c/\if c=true then Q (.bl true) H1 else tb U H1 Q
abbrev GD (ta:TE):TE:=λU H Q=>ta U H λx H1=>∃ c,x=.bl c/\Q (.bl (!c)) H1
def wo {op}{t:TE}(h:PE X a t):PE X (.BoolOp op [a] pos) t:=λY s U H Q I hw=>BoolOp_one (h Y s U H Q I hw)
def FR (ha:PE X a ta)(hb:PE X (.BoolOp .And (b::rest) pos) tb):PE X (.BoolOp .And (a::b::rest) pos) (Gf ta tb):=by
 intro Y s U H Q I h;refine BoolOp_and (aA (ha Y s U H _ I h) λv s1 ⟨x,H1,I1,r1,q1⟩=>?_);obtain⟨c,rfl,q1⟩:=q1;cases r1;refine bi ?_;cases c with
 |true=>exact hb Y s1 U H1 Q I1 q1
 |false=>exact⟨.bl false,H1,I1,rfl,q1⟩
def Gr (ha:PE X a ta)(hb:PE X (.BoolOp .Or (b::rest) pos) tb):PE X (.BoolOp .Or (a::b::rest) pos) (Km ta tb):=by
 intro Y s U H Q I h;refine BoolOp_or (aA (ha Y s U H _ I h) λv s1 ⟨x,H1,I1,r1,q1⟩=>?_);obtain⟨c,rfl,q1⟩:=q1;cases r1;refine bi ?_;cases c with
 |false=>exact hb Y s1 U H1 Q I1 q1
 |true=>exact⟨.bl true,H1,I1,rfl,q1⟩
def FH (ha:PE X a ta):PE X (.UnaryOp .Not a pos) (GD ta):=by
 intro Y s U H Q I h;refine UnaryOp_ (aA (ha Y s U H _ I h) λv s1 ⟨x,H1,I1,r1,q1⟩=>?_);obtain⟨c,rfl,q1⟩:=q1;cases r1;exact not_of (bi ⟨.bl (!c),H1,I1,rfl,q1⟩)
abbrev La (t:TT)(ta tb:TE):TE:=λU H Q=>t U H λc H1=>if c=true then ta U H1 Q else tb U H1 Q
def yq (hc:PT X c tA)(ha:PE X a ta)(hb:PE X b tb):PE X (.IfExp c a b pos) (La tA ta tb):=by
 intro Y s U H Q I h;refine wpAny_IfExp (aA (hc Y s U H _ I h) λd s1 ⟨H1,I1,q1⟩=>?_);cases d with
 |true=>exact ha Y s1 U H1 Q I1 q1
 |false=>exact hb Y s1 U H1 Q I1 q1
end
abbrev bj (K:W.Frag)(H:Hp)(a:Addr)(xs:List V):Prop:=
 Rd H a (.lst xs)\/
  ∃ (o:Obj) (its:Array Value) (n:Nat),K.lookup a=some o/\o.cls=.type "list"/\o.dict=none/\o.data=.seq its n/\its.size<=bn/\Vals xs its.toList
abbrev bg (K:W.Frag)(H:Hp)(a:Addr)(xs:List V):Prop:=
 Rd H a (.tup xs)\/
  ∃ (o:Obj) (its:Array Value) (n:Nat),K.lookup a=some o/\o.cls=.type "tuple"/\o.data=.seq its n/\its.size<=bn/\Vals xs its.toList
abbrev E3:Value->Option V
 | .none=>some .non
 | .bool b=>some (.bl b)
 | .int i _=>some (.int i)
 | .str x _=>some (.str x)
 | .bytes b _=>some (.byt b)
 | .float b _=>some (.flt b)
 | .ref a=>some (.ref a)
 | .type n=>some (.ty n)
 |_=>none
def RelV.abs {x:V}(r:RelV x u):E3 u=some x:=by
 cases x with
 |non=>cases r;rfl
 |bl _=>cases r;rfl
 |int _=>obtain⟨t,rfl⟩:=r;rfl
 |str _=>obtain⟨t,rfl⟩:=r;rfl
 |byt _=>obtain⟨t,rfl⟩:=r;rfl
 |flt _=>obtain⟨t,rfl⟩:=r;rfl
 |ref _=>cases r;rfl
 |ty _=>cases r;rfl
def RelV.inj {x y:V}(r:RelV x u)(q:RelV y u):x=y:=Option.some.inj (r.abs.symm.trans q.abs)
def Vals.inj:∀ {xs ys:List V}{us:List Value},Vals xs us->Vals ys us->xs=ys
 |_,_,_,.nil,.nil=>rfl
 |_,_,_,.cons r t,.cons r' t'=>by rw[r.inj r',Vals.inj t t']
section
variable {X:Cx}{Y:LF}{U:St}{H:Hp}{s:Shared}{a:Addr}{xs ys:List V}
def bj.of {K:W.Frag}(h:H a=some (.lst xs)):bj K H a xs:=.inl (.inl h)
def bg.of {K:W.Frag}(h:H a=some (.tup xs)):bg K H a xs:=.inl (.inl h)
def Inv.list (I:Inv X Y U H s)(h:bj X.K H a xs):∃ its:List Value,Vals xs its/\PlainL s.heap a its.toArray/\xs.length<=bn:=by
 rcases h with h|⟨o,its,n,hk,hc,hd,hs,hz,r⟩
 .obtain⟨z,its,n,r,e⟩:=h.ok I.hok;exact⟨its,r,⟨_,n,e,rfl,rfl,rfl⟩,z⟩
 .refine⟨its.toList,r,⟨o,n,I.bL a o hk,hc,hd,by simpa using hs⟩,?_⟩;have e:=r.length;simp only[Array.length_toList]at e
  omega
def Inv.tuple (I:Inv X Y U H s)(h:bg X.K H a xs):∃ its:List Value,Vals xs its/\IsTup s.heap a its.toArray/\xs.length<=bn:=by
 rcases h with h|⟨o,its,n,hk,hc,hs,hz,r⟩
 .obtain⟨z,its,r,p⟩:=h.ok I.hok;exact⟨its,r,p,z⟩
 .refine⟨its.toList,r,⟨o,I.bL a o hk,hc,n,by simpa using hs⟩,?_⟩;have e:=r.length;simp only[Array.length_toList]at e
  omega
def Inv.kX (I:Inv X Y U H s)(h:bj X.K H a xs)(h':bj X.K H a ys):xs=ys:=by
 obtain⟨its,r,⟨o,n,e,_,_,d⟩,_⟩:=I.list h;obtain⟨its',r',⟨o',n',e',_,_,d'⟩,_⟩:=I.list h';rw[e]at e';cases e';rw[d]at d'
 injection d' with d1 _
 have:its=its':=by simpa using congrArg Array.toList d1
 subst this;exact r.inj r'
def Inv.hW (I:Inv X Y U H s)(h:bg X.K H a xs)(h':bg X.K H a ys):xs=ys:=by
 obtain⟨its,r,⟨o,e,_,n,d⟩,_⟩:=I.tuple h;obtain⟨its',r',⟨o',e',_,n',d'⟩,_⟩:=I.tuple h';rw[e]at e';cases e';rw[d]at d'
 injection d' with d1 _
 have:its=its':=by simpa using congrArg Array.toList d1
 subst this;exact r.inj r'
end
section
variable {X:Cx}{Y:LF}{U:St}{H:Hp}{s:Shared}{E:LD}
end
section
variable {X:Cx}{st:Stmt}{rest:List Stmt}{t u:TS}{e:Expr}{te:TE}{pos:Pos}
abbrev Ia:TS:=λD U H=>D.nx U H
abbrev JN (t u:TS):TS:=λD U H=>t { D with nx:=u D } U H
def Cb:BY X [] Ia:=λ_ _ U H _ I h=>wpAny_execs_nil ⟨U,H,I,h⟩
def xu (h1:PS X st t)(h2:BY X rest u):BY X (st::rest) (JN t u):=by
 intro Y s U H D I h;refine wpAny_execs_cons (aA (h1 Y s U H { D with nx:=u D } I h) λf s1 q=>?_);cases f with
 |next=>
  obtain⟨σ',H',I',q⟩:=q;exact h2 Y s1 σ' H' D I' q
 |ret v=>exact q
 |brk=>exact q
 |cont=>exact q
def Inv.quiet (I:Inv X Y U H s):interactive X.env=false:=by simp[interactive,I.ok.kind]
abbrev HA (te:TE):TS:=λD U H=>te U H λ_ H1=>D.nx U H1
def B8 (he:PE X e te)(hs:swapsWith e none pos.line X.env=pure false:=by rfl):PS X (.Expr e pos) (HA te):=by
 intro Y s U H D I h;exact wpAny_Expr_any (aA (he Y s U H _ I h) λv s1 ⟨x,H1,I1,r1,q1⟩=>⟨U,H1,I1,q1⟩) I.quiet hs
abbrev Jj (te:TE):TS:=λD U H=>te U H D.rt
def Fu (he:PE X e te):PS X (.Return (some e) pos) (Jj te):=by
 intro Y s U H D I h;exact wpAny_Return_some (aA (he Y s U H _ I h) λv s1 ⟨x,H1,I1,r1,q1⟩=>⟨x,U,H1,I1,r1,q1⟩)
abbrev JM (c:TT)(t u:TS):TS:=λD U H=>c U H λb H1=>if b=true then t D U H1 else u D U H1
def HI {a b:List Stmt}{tc:TT}(hc:PT X c tc)(ha:BY X a t)(hb:BY X b u):PS X (.If c a b pos) (JM tc t u):=by
 intro Y s U H D I h;refine wpAny_If (aA (hc Y s U H _ I h) λd s1 ⟨H1,I1,q1⟩=>?_);cases d with
 |true=>exact ha Y s1 U H1 D I1 q1
 |false=>exact hb Y s1 U H1 D I1 q1
end
@[reducible]def TG:=V->St->Hp->(St->Hp->Prop)->Prop
@[reducible]def AS:=List V->St->Hp->(St->Hp->Prop)->Prop
abbrev PG (X:Cx)(target:Expr)(t:TG):Prop:=
 ∀ (Y:LF) (s:Shared) (U:St) (H:Hp) (v:V) (u:Value) (Q:St->Hp->Prop),Inv X Y U H s->RelV v u->t v U H Q->
  wpAny (model X.prog X.w) X.A (assign target X.env u) (λ_ s'=>∃ σ' H',Inv X Y σ' H' s'/\Q σ' H') X.xe s
abbrev FW (X:Cx)(ts:List Expr)(t:AS):Prop:=
 ∀ (Y:LF) (s:Shared) (U:St) (H:Hp) (vs:List V) (us:List Value) (Q:St->Hp->Prop),Inv X Y U H s->Vals vs us->t vs U H Q->
  wpAny (model X.prog X.w) X.A (assignInOrder ((assignEach ts X.env).map (·.2)) us) (λ_ s'=>∃ σ' H',Inv X Y σ' H' s'/\Q σ' H') X.xe s
@[reducible]def vP:=V->V->V->Hp->(Hp->Prop)->Prop
abbrev Al (X:Cx)(t:vP):Prop:=
 ∀ (Y:LF) (s:Shared) (U:St) (H:Hp) (o i v:V) (ov iv u:Value) (Q:Hp->Prop),Inv X Y U H s->RelV o ov->RelV i iv->RelV v u->t o i v H Q->
  wpAny (model X.prog X.w) X.A (setItem ov iv u) (λ_ s'=>∃ H',Inv X Y U H' s'/\Q H') X.xe s
@[reducible]def FZ:=V->V->Hp->VK->Prop
abbrev HN (X:Cx)(op:Operator)(t:FZ):Prop:=
 ∀ (Y:LF) (s:Shared) (U:St) (H:Hp) (x y:V) (v u:Value) (Q:VK),Inv X Y U H s->RelV x v->RelV y u->t x y H Q->
  wpAny (model X.prog X.w) X.A (inplaceOp op v u) (EP X Y U Q) X.xe s
variable {es:List Expr}{k:Nat}{tg:Expr}{te:TE}{pos':Pos}{op:Operator}
section
variable {X:Cx}{pos:Pos}
abbrev gJ (i:Nat):TG:=λv U H Q=>Q (U.set i (some v)) H
def gI (hN:X.N.Nodup)(hi:X.N[i]? =some x)(hx:Loc X.env.scope x)(hf:X.fn x=true\/X.env.scope.names.lookup x=some .local:=by first|exact .inl rfl|exact .inr rfl|assumption):PG X (.Name x pos) (gJ i):=by
 intro Y s U H v u Q I r h;exact wpAny_assign_Name (bp I hN hi hx r (λs' I'=>⟨_,H,I',h⟩) hf)
abbrev JY:AS:=λvs U H Q=>vs=[]/\Q U H
abbrev IH (t:TG)(u:AS):AS:=λvs U H Q=>∃ v r,vs=v::r/\t v U H λσ' H'=>u r σ' H' Q
def m8:FW X [] JY:=by
 intro Y s U H vs us Q I r h;obtain⟨e,h⟩:=h;subst e;cases r;exact assignInOrder_nil ⟨U,H,I,h⟩
def gm {t:TG}{u:AS}(h1:PG X e t)(h2:FW X es u)
  (hs:(assignEach (e::es) X.env).map (·.2)=assign e X.env::(assignEach es X.env).map (·.2):=by rfl):FW X (e::es) (IH t u):=by
 intro Y s U H vs us Q I r h;obtain⟨v,vr,e1,h⟩:=h;subst e1;cases r with
 |cons r rr=>
  rw[hs];refine assignInOrder_cons (aA (h1 Y s U H _ _ _ I r h) λ_ s1 ⟨σ1,H1,I1,q1⟩=>?_);exact h2 Y s1 σ1 H1 _ _ Q I1 rr q1
abbrev Ce (K:W.Frag)(n:Nat)(t:AS):TG:=λv U H Q=>∃ a xs,v=.ref a/\bg K H a xs/\xs.length=n/\t xs U H Q
def nP {t:AS}{n:Nat}(hc:X.calm=true)(h:FW X es t)
  (hn:(assignEach es X.env).length=n:=by rfl) (hst:(assignEach es X.env).findIdx? (·.1)=none:=by rfl):PG X (.Tuple es k pos) (Ce X.K n t):=by
 intro Y s U H v u Q I r hw;obtain⟨a,xs,e1,hq,hl,hw⟩:=hw;subst e1;cases r;obtain⟨its,rv,ht,hz⟩:=I.tuple hq;refine assign_Tuple_tuple (I.ok.hd hc) ht (by simp[hn,<-hl,rv.length]) hst λh' hx=>?_
 have I1:Inv X Y U H { s with heap:=h' }:=I.kept (t':=s.toks) λb o e=>hx b o (pc (tz e)) e
 exact h Y _ U H xs _ Q I1 (by simpa using rv) hw
abbrev JG (to ti:TE)(t:vP):TG:=λv U H Q=>to U H λo H1=>ti U H1 λi H2=>t o i v H2 λH3=>Q U H3
def DZ {o i:Expr}{to ti:TE}{t:vP}(ho:PE X o to)(hi:PE X i ti)(hs:Al X t)
  (ha:∀ v,assign (.Subscript o i pos) X.env v=(do
   let ov <-holding [v] (eval o X.env)
   let iv <-holding [v,ov] (eval i X.env)
   standAt pos
   holding [v,ov,iv] (setItem ov iv v)
   release [v,ov,iv] []):=by intro _;rfl):PG X (.Subscript o i pos) (JG to ti t):=by
 intro Y s U H v u Q I r h;rw[ha];refine ad (bd (aA (ho Y s U H _ I h) λov s1 ⟨x,H1,I1,r1,q1⟩=>?_));refine ad (bd (aA (hi Y s1 U H1 _ I1 q1) λiv s2 ⟨y,H2,I2,r2,q2⟩=>?_));refine ad (wpAny_standAt (ad (bd (aA (hs Y s2 U H2 x y v ov iv u _ I2 r1 r2 r q2) λ_ s3 ⟨H3,I3,q3⟩=>?_))));exact wpAny_release ⟨U,H3,I3,q3⟩
abbrev HJ (te:TE)(g:TG):TS:=λD U H=>te U H λx H1=>g x U H1 D.nx
def zP {g:TG}(he:PE X e te)(hg:PG X tg g)(hs:swapsWithSole [tg] e pos.line X.env=pure false:=by rfl) (hw:swappedStores [tg] e X.env=pure none:=by rfl)
  (h1:(assignEach [tg] X.env).map (·.2)=[assign tg X.env]:=by rfl):PS X (.Assign [tg] e pos) (HJ te g):=by
 intro Y s U H D I h;refine wpAny_Assign_stores (aA (he Y s U H _ I h) λv s1 ⟨x,H1,I1,r1,q1⟩=>?_) hs hw;rw[h1];exact aA (hg Y s1 U H1 x v _ I1 r1 q1) λ_ s2 q=>q
def yV (hN:X.N.Nodup)(hi:X.N[i]? =some x)(hx:Loc X.env.scope x)(he:PE X e te)(hs:swapsWith e (some (.Name x pos')) pos.line X.env=pure false:=by rfl) (hf:X.fn x=true\/X.env.scope.names.lookup x=some .local:=by first|exact .inl rfl|exact .inr rfl|assumption):
  PS X (.Assign [.Name x pos'] e pos) (HJ te (gJ i)):=by
 intro Y s U H D I h;refine wpAny_Assign_Name (aA (he Y s U H _ I h) λv s1 ⟨y,H1,I1,r1,q1⟩=>?_) hs;exact bp I1 hN hi hx r1 (λs2 I2=>⟨_,H1,I2,q1⟩) hf
abbrev Kb (i:Nat)(te:TE)(ti:FZ):TS:=λD U H=>∃ x,U[i]? =some (some x)/\te U H λy H1=>ti x y H1 λz H2=>D.nx (U.set i (some z)) H2
def D0 {ti:FZ}(hN:X.N.Nodup)(hi:X.N[i]? =some x)(hx:Loc X.env.scope x)(he:PE X e te)(ho:HN X op ti)(hf:X.fn x=true\/X.env.scope.names.lookup x=some .local:=by first|exact .inl rfl|exact .inr rfl|assumption):
  PS X (.AugAssign (.Name x pos') op e pos) (Kb i te ti):=by
 intro Y s U H D I h;obtain⟨v,e1,h⟩:=h;obtain⟨m,hn,hl⟩:=I.loc;have D6:IC X.env.scope x:=by rcases hx with k|k;exact .inl k;exact .inr (.inl k)
 obtain⟨u,r,l⟩:=hl i x v hi e1 D6;refine wpAny_AugAssign_Name ?_;have go:wpAny (model X.prog X.w) X.A (eval e X.env) (λw s₂=>wpAny (model X.prog X.w) X.A (inplaceOp op u w) (λr s₃=>wpAny (model X.prog X.w) X.A (storeName X.env x r) (λ_=>SP X Y D .next) X.xe s₃) X.xe s₂) X.xe s:=by
  refine aA (he Y s U H _ I h) λw s1 ⟨y,H1,I1,r1,q1⟩=>?_
  refine aA (ho Y s1 U H1 v y u w _ I1 r r1 q1) λz s2 ⟨zv,H2,I2,r2,q2⟩=>?_
  exact bp I2 hN hi hx r2 (λs3 I3=>⟨_,H2,I3,q2⟩) hf
 rcases l with⟨hk,hm⟩|⟨hk,c,hc,hcell⟩
 .exact wpAny_loadName_local I.ok.kind hk hn hm go
 .rcases hk with hk|hk
  .exact wpAny_loadName_cell I.ok.kind hk hc hcell go
  .rcases hx with k|k
   .have:X.env.scope.names.lookup x=some .free:=hk;rw[k]at this;cases this
   .have:X.env.scope.names.lookup x=some .free:=hk;rw[k]at this;cases this
abbrev G6 (to ti te:TE)(tget:V->V->Hp->VK->Prop)(tip:FZ)(tset:vP):TS:=λD U H=>to U H λo H1=>ti U H1 λi H2=>tget o i H2 λx H3=>te U H3 λy H4=>tip x y H4 λz H5=>tset o i z H5 λH6=>D.nx U H6
abbrev Dr (X:Cx)(t:V->V->Hp->VK->Prop):Prop:=
 ∀ (Y:LF) (s:Shared) (U:St) (H:Hp) (o i:V) (ov iv:Value) (Q:VK),Inv X Y U H s->RelV o ov->RelV i iv->t o i H Q->
  wpAny (model X.prog X.w) X.A (getItem ov iv) (EP X Y U Q) X.xe s
def AK {o i:Expr}{to ti:TE}{tget:V->V->Hp->VK->Prop}{tip:FZ}{tset:vP}{tpos:Pos}(ho:PE X o to)(hi:PE X i ti)(hg:Dr X tget)(he:PE X e te)(hp:HN X op tip)(hs:Al X tset)
  (ha:∀ ov iv new,augStore i ov iv new=(do holding [new,ov,iv] (setItem ov iv new);release [new,ov,iv] [];pure .next):=by intros;rfl):PS X (.AugAssign (.Subscript o i tpos) op e pos) (G6 to ti te tget tip tset):=by
 intro Y s U H D I h;refine wpAny_AugAssign_SubscriptAny (aA (ho Y s U H _ I h) λov s1 ⟨x1,H1,I1,r1,q1⟩=>?_) ha;refine aA (hi Y s1 U H1 _ I1 q1) λiv s2 ⟨x2,H2,I2,r2,q2⟩=>?_
 refine aA (hg Y s2 U H2 x1 x2 ov iv _ I2 r1 r2 q2) λold s3 ⟨x3,H3,I3,r3,q3⟩=>?_
 refine aA (he Y s3 U H3 _ I3 q3) λv s4 ⟨x4,H4,I4,r4,q4⟩=>?_
 refine aA (hp Y s4 U H4 x3 x4 old v _ I4 r3 r4 q4) λnew s5 ⟨x5,H5,I5,r5,q5⟩=>?_
 exact aA (hs Y s5 U H5 x1 x2 x5 ov iv new _ I5 r1 r2 r5 q5) λ_ s6 ⟨H6,I6,q6⟩=>⟨U,H6,I6,q6⟩
abbrev Ks (f:Int->Int->Int):FZ:=λx y H Q=>∃ i j,x=.int i/\y=.int j/\Q (.int (f i j)) H
def FJ:HN X .Add (Ks λi j=>i+j):=by
 intro Y s U H x y v u Q I r1 r2 h;obtain⟨i,j,e1,e2,q⟩:=h;subst e1;subst e2;obtain⟨t,rfl⟩:=r1;obtain⟨t',rfl⟩:=r2;exact iadd_int ⟨.int _,H,I.tok _,⟨_,rfl⟩,q⟩
def Fi:HN X .Sub (Ks λi j=>i-j):=by
 intro Y s U H x y v u Q I r1 r2 h;obtain⟨i,j,e1,e2,q⟩:=h;subst e1;subst e2;obtain⟨t,rfl⟩:=r1;obtain⟨t',rfl⟩:=r2;exact isub_int ⟨.int _,H,I.tok _,⟨_,rfl⟩,q⟩
end
variable {body:List Stmt}
section
variable {X:Cx}{pos:Pos}
abbrev EC (c:TT)(tb:TS):TS:=λD U H=>∃ W:Nat->St->Hp->Prop,(∃ m,W m U H)/\∀ m U H,W m U H->
 c U H λb H1=>if b=true then ∃ N:St->Hp->Prop,(∀ σ' H',N σ' H'->∃ m',m'<m/\W m' σ' H')/\tb { D with nx:=N,ct:=N,bk:=D.nx } U H1 else D.nx U H1
def yS {tc:TT}{tb:TS}(hp:PassesOwn (model X.prog X.w) X.A X.env X.xe)(hc:PT X c tc)(hb:BY X body tb):PS X (.While c body [] pos) (EC tc tb):=by
 intro Y s U H D I h;obtain⟨W,⟨m0,w0⟩,turn⟩:=h;refine wpAny_While (codeAny_whileLoop (λn s'=>∃ σ' H',Inv X Y σ' H' s'/\W n σ' H') ?_ m0 ⟨U,H,I,w0⟩);rintro n s1 ⟨σ1,H1,I1,w1⟩;refine wpAny_passesOwn hp (aA (hc Y s1 σ1 H1 _ I1 (turn n σ1 H1 w1)) λb s2 ⟨H2,I2,q2⟩=>?_);cases b with
 |true=>
  obtain⟨N,hN,q2⟩:=q2;rw[if_pos rfl];refine wpAny_passesOwn hp (aA (hb Y s2 σ1 H2 _ I2 q2) λf s3 q3=>?_);cases f with
  |next=>
   obtain⟨σ3,H3,I3,n3⟩:=q3;obtain⟨m',hm,w3⟩:=hN σ3 H3 n3;exact⟨m',hm,σ3,H3,I3,w3⟩
  |cont=>
   obtain⟨σ3,H3,I3,n3⟩:=q3;obtain⟨m',hm,w3⟩:=hN σ3 H3 n3;exact⟨m',hm,σ3,H3,I3,w3⟩
  |brk=>exact q3
  |ret v=>exact q3
 |false=>
  rw[if_neg Bool.false_ne_true];exact wpAny_execs_nil ⟨σ1,H2,I2,q2⟩
end
structure It where
 go:Nat->Hp->Prop
 yld:Nat->Hp->V->Hp->Prop
 stop:Nat->Hp->Prop
abbrev hX (X:Cx)(Y:LF)(H:Hp)(b:Addr):Prop:=
 H b=none/\b≠X.env.locals/\b ∉ X.fs/\(b ∈ X.ex\/X.s₀.heap.objs.size<=b)/\(∀ x c,X.env.cells.lookup x=some c->c≠b)/\∀ p ∈ X.pn++Y,p.1≠b
def Inv.zt {X:Cx}{H':Hp}(I:Inv X Y U H s)(hb:s.heap.objs.size<=b)(hn:H' b=none):hX X Y H' b:=by
 refine⟨hn,Nat.ne_of_gt (nw I.lt hb),I.Ka hb,.inr (Nat.le_trans I.sz hb),λx c e z=>?_,λp hp z=>?_⟩
 .obtain⟨v,q⟩:=I.cell x c e;exact absurd (nw q.lt (by rw[z];exact hb)) (Nat.lt_irrefl _)
 .exact absurd (nw (tz (I.pin p hp).1) (by rw[z];exact hb)) (Nat.lt_irrefl _)
structure Turn (P:Program) (w:World) (K:W.Frag) (tg:Expr) (J:It) (fp:List Addr) (it:Addr) (tn:Nat->Heap->Prop):Prop where
 mem:it ∈ fp
 obj:∀ i h,tn i h->∀ b ∈ fp,∃ o,h.get? b=some o/\∀ v,o.data≠.cell v
 keep:∀ i h h',tn i h->(∀ b ∈ fp,∀ o,h.get? b=some o->h'.get? b=some o)->tn i h'
 item:∀ (X:Cx),X.prog=P->X.w=w->X.K=K->X.calm=true->∀ (i:Nat) (Y:LF) (s:Shared) (U:St) (H:Hp) (E:LD),Inv X Y U H s->(∀ b ∈ fp,hX X Y H b)->tn i s.heap->J.go i H->
  wpAny (model P w) X.A (pyNext (.ref it)) (λr s1=>∃ u,r=some u/\
   wpAny (model P w) X.A (letOwnedTupleGo tg (.ref it) u) (λ_ s2=>∃ x H',Inv X Y U H' s2/\RelV x u/\J.yld i H x H'/\tn (i+1) s2.heap/\∀ b ∈ fp,H' b=none) E s1) E s
 done:∀ (X:Cx),X.prog=P->X.w=w->X.K=K->X.calm=true->∀ (i:Nat) (Y:LF) (s:Shared) (U:St) (H:Hp) (E:LD),Inv X Y U H s->(∀ b ∈ fp,hX X Y H b)->tn i s.heap->J.stop i H->
  wpAny (model P w) X.A (pyNext (.ref it)) (λr s1=>r=none/\Inv X Y U H s1) E s
 self:∀ (A:Around) (i:Nat) (s:Shared) (Q:LD) (E:LD),tn i s.heap->Q (.ref it) s->wpAny (model P w) A (pyIter (.ref it)) Q E s
@[reducible]def TI:=St->Hp->(It->Hp->Prop)->Prop
abbrev IX (X:Cx)(Y:LF)(U:St)(tg:Expr)(R:It->Hp->Prop)(itv:Value)(s2:Shared):Prop:=
 ∃ (it:Addr) (fp:List Addr) (tn:Nat->Heap->Prop) (J:It) (H':Hp),itv=.ref it/\Inv X Y U H' s2/\Turn X.prog X.w X.K tg J fp it tn/\tn 0 s2.heap/\(∀ b ∈ fp,hX X Y H' b)/\R J H'
abbrev PI (X:Cx)(tg iter:Expr)(wi:TI):Prop:=
 ∀ (Y:LF) (s:Shared) (U:St) (H:Hp) (R:It->Hp->Prop),Inv X Y U H s->wi U H R->
  wpAny (model X.prog X.w) X.A (eval iter X.env) (λv s1=>wpAny (model X.prog X.w) X.A (pyIter v) (IX X Y U tg R) X.xe s1) X.xe s
def xQ {it:Addr}{o:Obj}{n:String}{vs:Array Value}{Q:LB}(ho:s.heap.get? it=some o)(hc:o.cls=.type n)(hd:o.data=.fields vs)
  (hn:["enumerate","zip","dict_itemiterator","dict_reverseitemiterator","odict_iterator","itertools.zip_longest","itertools.pairwise"].contains n=false) (hQ:Q () s):wpAny M A (letOwnedTupleGo tg (.ref it) u) Q E s:=by
 unfold letOwnedTupleGo;cases tg<;>first
  |exact am hQ
  |(cases u<;>first
    |exact am hQ
    |(refine ad (wpAny_load ho ?_)
      rw[hc,hd];show wpAny M A (if(["enumerate","zip","dict_itemiterator","dict_reverseitemiterator","odict_iterator","itertools.zip_longest","itertools.pairwise"].contains n&&vs[0]? ==some (rawInt _))=true then _ else _) Q E s;rw[if_neg (by intro h;rw[hn,Bool.false_and]at h;cases h)];exact am hQ))
abbrev Cp (K:W.Frag)(a:Addr):It:=
 ⟨λi H=>∃ xs x,bj K H a xs/\xs[i]? =some x,λi H x H'=>H'=H/\∀ xs,bj K H a xs->xs[i]? =some x,λi H=>∃ xs,bj K H a xs/\xs.length<=i⟩
abbrev Gk (K:W.Frag)(a:Addr):It:=
 ⟨λi H=>∃ xs x,bg K H a xs/\xs[i]? =some x,λi H x H'=>H'=H/\∀ xs,bg K H a xs->xs[i]? =some x,λi H=>∃ xs,bg K H a xs/\xs.length<=i⟩
abbrev C0 (lo:Int)(n:Nat):It:=⟨λi _=>i<n,λi H x H'=>H'=H/\x=.int (lo+i),λi _=>n<=i⟩
def uS {K:W.Frag}(a it:Addr):Turn P w K tg (Cp K a) [it] it (λi h=>h.IsListIter it a i) where
 mem:=by simp
 obj:=λi h st b hb=>by
  have e:b=it:=by simpa using hb
  subst e;obtain⟨o,e,c,d⟩:=st;exact⟨o,e,λv z=>by rw[d]at z;cases z⟩
 keep:=λi h h' st k=>st.at λo e=>k it (by simp) o e
 item:=by
  intro X hP hw hK hc i Y s U H E I hf st hg;subst hP hw hK;obtain⟨xs,x,hq,hx⟩:=hg;obtain⟨its,rv,p,hz⟩:=I.list hq;obtain⟨u,hu,ru⟩:=rv.get hx;obtain⟨f0,f1,f2,f3,f4,f5⟩:=hf it (by simp);refine wpAny_pyNext_list_item st p.isList (x:=u) (by simpa using hu) λh' st' sb=>?_
  have I1:Inv X Y U H { s with heap:=h' }:=I.turned (t':=s.toks) (λb o hb e=>(sb.2 b hb).trans e) f0 f1 f3 f4 f5;obtain⟨o,e,c,d⟩:=id st';exact⟨u,rfl,xQ (s:={ s with heap:=h' }) e c d (by decide) ⟨x,H,I1,ru,⟨rfl,λys hy=>by rw[I.kX hy hq];exact hx⟩,st',λb hb=>(hf b hb).1⟩⟩
 done:=by
  intro X hP hw hK hc i Y s U H E I hf st hg;subst hP hw hK;obtain⟨xs,hq,hx⟩:=hg;obtain⟨its,rv,p,hz⟩:=I.list hq;obtain⟨f0,f1,f2,f3,f4,f5⟩:=hf it (by simp);have hl:=rv.length;exact wpAny_pyNext_list_end (I.ok.hd hc) st p.isList (by simp;omega) λh' eb=>⟨rfl,I.turned (t':=s.toks) (λb o hb e=>eb b o hb e) f0 f1 f3 f4 f5⟩
 self:=λ_ _ _ _ _ st h=>wpAny_pyIter_listiter st h
def qM {K:W.Frag}(a it:Addr):Turn P w K tg (Gk K a) [it] it (λi h=>h.IsTupleIter it a i) where
 mem:=by simp
 obj:=λi h st b hb=>by
  have e:b=it:=by simpa using hb
  subst e;obtain⟨o,e,c,d⟩:=st;exact⟨o,e,λv z=>by rw[d]at z;cases z⟩
 keep:=λi h h' st k=>st.at λo e=>k it (by simp) o e
 item:=by
  intro X hP hw hK hc i Y s U H E I hf st hg;subst hP hw hK;obtain⟨xs,x,hq,hx⟩:=hg;obtain⟨its,rv,p,hz⟩:=I.tuple hq;obtain⟨u,hu,ru⟩:=rv.get hx;obtain⟨f0,f1,f2,f3,f4,f5⟩:=hf it (by simp);refine wpAny_pyNext_tuple_item st (show s.heap.IsTuple a its.toArray from p) (x:=u) (by simpa using hu) λh' st' sb=>?_
  have I1:Inv X Y U H { s with heap:=h' }:=I.turned (t':=s.toks) (λb o hb e=>(sb.2 b hb).trans e) f0 f1 f3 f4 f5;obtain⟨o,e,c,d⟩:=id st';exact⟨u,rfl,xQ (s:={ s with heap:=h' }) e c d (by decide) ⟨x,H,I1,ru,⟨rfl,λys hy=>by rw[I.hW hy hq];exact hx⟩,st',λb hb=>(hf b hb).1⟩⟩
 done:=by
  intro X hP hw hK hc i Y s U H E I hf st hg;subst hP hw hK;obtain⟨xs,hq,hx⟩:=hg;obtain⟨its,rv,p,hz⟩:=I.tuple hq;obtain⟨f0,f1,f2,f3,f4,f5⟩:=hf it (by simp);have hl:=rv.length;exact wpAny_pyNext_tuple_end (I.ok.hd hc) st (show s.heap.IsTuple a its.toArray from p) (by simp;omega) λh' eb=>⟨rfl,I.turned (t':=s.toks) (λb o hb e=>eb b o hb e) f0 f1 f3 f4 f5⟩
 self:=λ_ _ _ _ _ st h=>wpAny_pyIter_tupleiter st h
def qL {K:W.Frag}(it:Addr)(lo:Int)(n:Nat):Turn P w K tg (C0 lo n) [it] it (λi h=>IsRangeIter h it (lo+(i:Nat)*1) ((n:Int)-(i:Nat)) 1) where
 mem:=by simp
 obj:=λi h st b hb=>by
  have e:b=it:=by simpa using hb
  subst e;exact⟨_,st,λv z=>by
   have z':Data.fields _=Data.cell v:=z;cases z'⟩
 keep:=λi h h' st k=>k it (by simp) _ st
 item:=by
  intro X hP hw hK hc i Y s U H E I hf st hg;subst hP hw hK;obtain⟨f0,f1,f2,f3,f4,f5⟩:=hf it (by simp);have W:=Walks.range (prog:=X.prog) (w:=X.w) (I.ok.hd hc) it lo 1 n;refine W.item i s _ _ hg st λv h' tk hv st' kk=>?_
  obtain⟨t,rfl⟩:=hv;have I1:Inv X Y U H { s with heap:=h',toks:=tk }:=I.turned (λb o hb e=>kk b o (by simpa using hb) e) f0 f1 f3 f4 f5;refine⟨_,rfl,xQ (s:={ s with heap:=h',toks:=tk }) (n:="range_iterator") st' rfl rfl (by decide) ⟨.int (lo+i),H,I1,⟨t,?_⟩,⟨rfl,rfl⟩,st',λb hb=>(hf b hb).1⟩⟩;rw[Int.mul_one]
 done:=by
  intro X hP hw hK hc i Y s U H E I hf st hg;subst hP hw hK;obtain⟨f0,f1,f2,f3,f4,f5⟩:=hf it (by simp);exact wpAny_pyNext_range_end (I.ok.hd hc) st (by have:n<=i:=hg;omega) λh' eb=>⟨rfl,I.turned (t':=s.toks) (λb o hb e=>eb b o hb e) f0 f1 f3 f4 f5⟩
 self:=λ_ _ _ _ _ st h=>wpAny_pyIter_rangeiter st h
variable {pos:Pos}{fp:List Addr}
section
variable {X:Cx}{tg:Expr}
def qI {R:It->Hp->Prop}{lo hi:Int}{t u v:Tok}{tk:Nat}(I:Inv X Y U H s)(h1: -(2 ^ 62)<=lo)(h2:lo<2 ^ 62)(h3: -(2 ^ 62)<=hi)(h4:hi<2 ^ 62)
  (q:R (C0 lo (hi-lo).toNat) H):wpAny (model X.prog X.w) X.A (pyIter (.ref s.heap.objs.size)) (IX X Y U tg R) E { s with heap:=s.heap.push { cls:=.type "range",data:=.fields #[.int lo t,.int hi u,.int 1 v] },toks:=tk }:=by
 refine wpAny_pyIter_range (IsRange.new ..) (small_one h1 h2 h3 h4) ?_;have I1:Inv X Y U H { s with heap:=s.heap.push { cls:=.type "range",data:=.fields #[.int lo t,.int hi u,.int 1 v] },toks:=tk }:=I.kept λb o e=>sK _ e
 refine⟨(s.heap.push { cls:=.type "range",data:=.fields #[.int lo t,.int hi u,.int 1 v] }).objs.size,[(s.heap.push { cls:=.type "range",data:=.fields #[.int lo t,.int hi u,.int 1 v] }).objs.size],_,_,H,rfl,
  I1.kept (t':=tk) λb o e=>sK _ e,qL _ lo (hi-lo).toNat,?_,λb hb=>?_,q⟩
 .have e1:lo+((0:Nat):Int)*1=lo:=by simp
  have e2:(((hi-lo).toNat:Nat):Int)-((0:Nat):Int)=Builtin.Range.rangeSize lo hi 1:=by rw[rangeSize_one];split<;>omega
  show IsRangeIter _ _ (lo+((0:Nat):Int)*1) ((((hi-lo).toNat:Nat):Int)-((0:Nat):Int)) 1;rw[e1,e2];exact ul _ rfl
 .have e:b=(s.heap.push { cls:=.type "range",data:=.fields #[.int lo t,.int hi u,.int 1 v] }).objs.size:=by simpa using hb
  subst e;exact I1.zt (pi _) (I1.hok.fresh (pi _))
abbrev HC (ta:TA):TI:=λU H R=>ta U H λvs H1=>∃ j:Int,vs=[.int j]/\ -(2 ^ 62)<=j/\j<2 ^ 62/\R (C0 0 j.toNat) H1
abbrev Gp (ta:TA):TI:=λU H R=>ta U H λvs H1=>∃ i j:Int,vs=[.int i,.int j]/\(-(2 ^ 62)<=i/\i<2 ^ 62/\ -(2 ^ 62)<=j/\j<2 ^ 62)/\R (C0 i (j-i).toNat) H1
def uZ {a:Expr}{ta:TA}{p:Pos}(hg:Gl X "range") (hm:X.mg "range"=none) (ha:PA X [a] ta) (hs:bm [a] X.env=[(false,eval a X.env)]:=by rfl):PI X tg (.Call (.Name "range" p) [a] [] pos) (HC ta):=by
 intro Y s U H R I h;refine Call_ (cB I hg hm boot_range (PyProof.Rows.callWith_type1 (aA (ha pos Y s U H _ I h) λus s1 ⟨vs,H1,I1,r1,q1⟩=>?_) hs rfl));obtain⟨j,e,q1,q2,q⟩:=q1;subst e;cases r1 with
 |cons r rr=>
  cases rr;obtain⟨t,rfl⟩:=r;exact call_range_1 (qI I1 nofun nofun q1 q2 (by simpa using q))
def vJ {a b:Expr}{ta:TA}{p:Pos}(hg:Gl X "range") (hm:X.mg "range"=none) (ha:PA X [a,b] ta) (hs:bm [a,b] X.env=[(false,eval a X.env),(false,eval b X.env)]:=by rfl) (hs2:bm [b] X.env=[(false,eval b X.env)]:=by rfl):
  PI X tg (.Call (.Name "range" p) [a,b] [] pos) (Gp ta):=by
 intro Y s U H R I h;refine Call_ (cB I hg hm boot_range (PyProof.Rows.callWith_type1 (aA (ha pos Y s U H _ I h) λus s1 ⟨vs,H1,I1,r1,q1⟩=>?_) (by rw[hs,hs2]) (by rw[hs2];rfl)));obtain⟨i,j,e,⟨q1,q2,q3,q4⟩,q⟩:=q1;subst e;cases r1 with
 |cons r rr=>
  cases rr with
  |cons r' rr=>
   cases rr;obtain⟨t,rfl⟩:=r;obtain⟨t',rfl⟩:=r';exact call_range_2 (qI I1 q1 q2 q3 q4 q)
abbrev Jv (wi:TI)(g:TG)(tb:TS):TS:=λD U H=>wi U H λJ H1=>∃ W:Nat->Nat->St->Hp->Prop,(∃ m,W 0 m U H1)/\∀ i m U H,W i m U H->
 (J.stop i H/\D.nx U H)\/(J.go i H/\∃ N:St->Hp->Prop,(∀ σ' H',N σ' H'->∃ m',m'<m/\W (i+1) m' σ' H')/\∀ x H',J.yld i H x H'->g x U H' λσ2 H2=>tb { D with nx:=N,ct:=N,bk:=D.nx } σ2 H2)
abbrev og (fp:List Addr)(h:Heap):List (Addr×Obj):=fp.filterMap λb=>(h.get? b).map λo=>(b,o)
def bN {o:Obj}(hb:b ∈ fp)(e:h.get? b=some o):(b,o) ∈ og fp h:=List.mem_filterMap.mpr ⟨b,hb,by rw[e];rfl⟩
def vF {p:Addr×Obj}(hp:p ∈ og fp h):p.1 ∈ fp/\h.get? p.1=some p.2:=by
 obtain⟨b,hb,e⟩:=List.mem_filterMap.mp hp;cases q:h.get? b with
 |none=>rw[q]at e;cases e
 |some o=>
  rw[q]at e;have e':(b,o)=p:=Option.some.inj e;subst e';exact⟨hb,q⟩
def Inv.pinned (I:Inv X Y U H s)(hf:∀ b ∈ fp,hX X Y H b) (ho:∀ b ∈ fp,∃ o,s.heap.get? b=some o/\∀ v,o.data≠.cell v):Inv X (Y++og fp s.heap) U H s:=
 I.oj λp hp=>(mem_append.mp hp).elim (λz=>I.pin p (ii _ z)) λz=>by
  obtain⟨hb,e⟩:=vF z;obtain⟨f0,f1,f2,_⟩:=hf p.1 hb;obtain⟨o,e',d⟩:=ho p.1 hb;rw[e]at e';cases e';exact⟨e,f0,f1,f2,d⟩
def Inv.fc {pl:LF}(I:Inv X (Y++pl) U H s):Inv X Y U H s:=I.oj λp hp=>I.pin p (ii _ (mem_append_left _ hp))
def D4 {iter:Expr}{wi:TI}{g:TG}{tb:TS}(hp:PassesOwn (model X.prog X.w) X.A X.env X.xe)(hc:X.calm=true)(hi:PI X tg iter wi)(hg:PG X tg g)(hb:BY X body tb)
  (hs:∀ x,foldedSetIterable iter X.env x=pure x:=by intro _;rfl):PS X (.For tg iter body [] pos) (Jv wi g tb):=by
 intro Y s U H D I h;refine wpAny_For (aA (hi Y s U H _ I h) λv s1 h1=>aA h1 λitv s2 h2=>?_) hs;obtain⟨it,fp,tn,J,H2,e,I2,T,oy,f2,W,⟨m0,w0⟩,turn⟩:=h2;subst e;have stat:∀ {H':Hp},(∀ b ∈ fp,H' b=none)->∀ b ∈ fp,hX X Y H' b:=λhn b hb=>⟨hn b hb,(f2 b hb).2⟩
 refine codeAny_forLoop_any (λn s'=>∃ i σ' H',Inv X Y σ' H' s'/\tn i s'.heap/\(∀ b ∈ fp,H' b=none)/\W i n σ' H') ?_ m0 ⟨0,U,H2,I2,oy,λb hb=>(f2 b hb).1,w0⟩;rintro n s3 ⟨i,σ3,H3,I3,st3,fr3,w3⟩;rcases turn i n σ3 H3 w3 with⟨stop,qn⟩|⟨go,N,hN,step⟩
 .refine wpAny_passesOwn hp (aA (T.done X rfl rfl rfl hc i Y s3 σ3 H3 X.xe I3 (stat fr3) st3 stop) λr s4 ⟨hr,I4⟩=>?_);subst hr;exact wpAny_execs_nil ⟨σ3,H3,I4,qn⟩
 .refine wpAny_passesOwn hp (aA (T.item X rfl rfl rfl hc i Y s3 σ3 H3 X.xe I3 (stat fr3) st3 go) λr s4 ⟨u,hr,h4⟩=>?_);subst hr;refine wpAny_passesOwn hp (aA h4 λ_ s5 ⟨x,H5,I5,r5,y5,st5,fr5⟩=>?_);have I5':=I5.pinned (stat fr5) (T.obj _ _ st5);refine wpAny_passesOwn hp (aA (hg _ s5 σ3 H5 x u _ I5' r5 (step x H5 y5)) λ_ s6 ⟨σ6,H6,I6,q6⟩=>?_);refine wpAny_passesOwn hp (aA (hb _ s6 σ6 H6 _ I6 q6) λf s7 q7=>?_);have again:∀ {σ7:St}{H7:Hp},Inv X (Y++og fp s5.heap) σ7 H7 s7->N σ7 H7->∃ m,m<n/\∃ i σ' H',Inv X Y σ' H' s7/\tn i s7.heap/\(∀ b ∈ fp,H' b=none)/\W i m σ' H':=λ{σ7 H7} I7 n7=>by
   obtain⟨m',hm,w7⟩:=hN σ7 H7 n7;refine⟨m',hm,i+1,σ7,H7,I7.fc,T.keep _ _ _ st5 λb hb o e=>(I7.pin (b,o) (ii _ (ii _ (bN hb e)))).1,λb hb=>?_,w7⟩;obtain⟨o,e,d⟩:=T.obj _ _ st5 b hb;exact(I7.pin (b,o) (ii _ (ii _ (bN hb e)))).2.1
  cases f with
  |next=>obtain⟨σ7,H7,I7,n7⟩:=q7;exact again I7 n7
  |cont=>obtain⟨σ7,H7,I7,n7⟩:=q7;exact again I7 n7
  |brk=>obtain⟨σ7,H7,I7,q7⟩:=q7;exact⟨σ7,H7,I7.fc,q7⟩
  |ret v=>obtain⟨x7,σ7,H7,I7,r7,q7⟩:=q7;exact⟨x7,σ7,H7,I7.fc,r7,q7⟩
end
@[reducible]def R2:=V->V->Hp->VK->Prop
abbrev cU (X:Cx)(f:Value->Value->Sem Value)(r:R2):Prop:=
 ∀ (Y:LF) (s:Shared) (U:St) (H:Hp) (x y:V) (v u:Value) (Q:VK),Inv X Y U H s->RelV x v->RelV y u->r x y H Q->
  wpAny (model X.prog X.w) X.A (f v u) (EP X Y U Q) X.xe s
abbrev Jd (X:Cx)(f:Value->Sem Value)(r:V->Hp->VK->Prop):Prop:=
 ∀ (Y:LF) (s:Shared) (U:St) (H:Hp) (x:V) (v:Value) (Q:VK),Inv X Y U H s->RelV x v->r x H Q->
  wpAny (model X.prog X.w) X.A (f v) (EP X Y U Q) X.xe s
abbrev dc (X:Cx)(f:Value)(r:List V->Hp->VK->Prop):Prop:=
 ∀ (Y:LF) (s:Shared) (U:St) (H:Hp) (xs:List V) (us:List Value) (Q:VK),Inv X Y U H s->Vals xs us->r xs H Q->
  wpAny (model X.prog X.w) X.A (call f us) (EP X Y U Q) X.xe s
abbrev Jw (X:Cx)(r:V->Hp->(Bool->Hp->Prop)->Prop):Prop:=
 ∀ (Y:LF) (s:Shared) (U:St) (H:Hp) (x:V) (v:Value) (Q:Bool->Hp->Prop),Inv X Y U H s->RelV x v->r x H Q->
  wpAny (model X.prog X.w) X.A (truthy v) (TP X Y U Q) X.xe s
abbrev IS (r:R2)(ta tb:TE):TE:=λU H Q=>ta U H λx H1=>tb U H1 λy H2=>r x y H2 Q
abbrev Lj (r:V->Hp->VK->Prop)(ta:TE):TE:=λU H Q=>ta U H λx H1=>r x H1 Q
abbrev rI (C:Int->Int->Prop)(g:Int->Int->V):R2:=λx y H Q=>∃ i j,x=.int i/\y=.int j/\C i j/\Q (g i j) H
abbrev BL (g:Int->Int->V):R2:=λx y H Q=>∃ i j,x=.int i/\y=.int j/\Q (g i j) H
abbrev rU (g:Int->V):V->Hp->VK->Prop:=λx H Q=>∃ i,x=.int i/\Q (g i) H
variable {f:Value->Value->Sem Value}{r:R2}{g:Int->Int->Int}
section
variable {X:Cx}{a b c:Expr}{ta tb tc:TE}{pos:Pos}
def Fb (ha:PE X a ta)(hb:PE X b tb){R:V->V->Hp->Prop}(I:Inv X Y U H s)
  (h:ta U H λx H1=>tb U H1 λy H2=>R x y H2)
  (hf:∀ v u s2 x y H2,Inv X Y U H2 s2->RelV x v->RelV y u->R x y H2->wpAny (model X.prog X.w) X.A (f v u) Q X.xe s2):
  wpAny (model X.prog X.w) X.A (eval a X.env) (λv s₁=>wpAny (model X.prog X.w) X.A (eval b X.env) (λu s₂=>wpAny (model X.prog X.w) X.A (f v u) Q X.xe s₂) X.xe s₁) X.xe s:=by
 refine aA (ha Y s U H _ I h) λv s1 ⟨x,H1,I1,r1,q1⟩=>?_
 refine aA (hb Y s1 U H1 _ I1 q1) λu s2 ⟨y,H2,I2,r2,q2⟩=>?_
 exact hf v u s2 x y H2 I2 r1 r2 q2
def Iq (ho:cU X (binaryOp op) r)(ha:PE X a ta)(hb:PE X b tb):PE X (.BinOp a op b pos) (IS r ta tb):=by
 intro Y s U H Q I h;exact wpAny_BinOp (Fb ha hb I h λv u s2 x y H2 I2 rx ry q=>ho Y s2 U H2 x y v u Q I2 rx ry q)
def Ip {op:UnaryOp}{r:V->Hp->VK->Prop}(ho:Jd X (unaryOp op) r)(ha:PE X a ta):PE X (.UnaryOp op a pos) (Lj r ta):=by
 intro Y s U H Q I h;exact UnaryOp_ (aA (ha Y s U H _ I h) λv s1 ⟨x,H1,I1,r1,q1⟩=>ho Y s1 U H1 x v Q I1 r1 q1)
def IL {C:Int->Int->Prop}
  (rule:∀ (i j:Int) (t u:Tok) (s:Shared) (Q:LD) (E:LD),C i j->Q (.int (g i j) s.toks) { s with toks:=s.toks+1 }->wpAny (model X.prog X.w) X.A (f (.int i t) (.int j u)) Q E s):
  cU X f (rI C λi j=>.int (g i j)):=by
 intro Y s U H x y v u Q I rx ry h;obtain⟨i,j,rfl,rfl,hc,q⟩:=h;obtain⟨t,rfl⟩:=rx;obtain⟨t',rfl⟩:=ry;exact rule i j t t' s _ _ hc ⟨.int (g i j),H,I.tok _,⟨_,rfl⟩,q⟩
def Gm 
  (rule:∀ (i j:Int) (t u:Tok) (s:Shared) (Q:LD) (E:LD),Q (.int (g i j) s.toks) { s with toks:=s.toks+1 }->wpAny (model X.prog X.w) X.A (f (.int i t) (.int j u)) Q E s):
  cU X f (BL λi j=>.int (g i j)):=by
 intro Y s U H x y v u Q I rx ry h;obtain⟨i,j,rfl,rfl,q⟩:=h;obtain⟨t,rfl⟩:=rx;obtain⟨t',rfl⟩:=ry;exact rule i j t t' s _ _ ⟨.int (g i j),H,I.tok _,⟨_,rfl⟩,q⟩
def AW {g:Int->Int->Bool}
  (rule:∀ (i j:Int) (t u:Tok) (s:Shared) (Q:LD) (E:LD),Q (.bool (g i j)) s->wpAny (model X.prog X.w) X.A (f (.int i t) (.int j u)) Q E s):
  cU X f (BL λi j=>.bl (g i j)):=by
 intro Y s U H x y v u Q I rx ry h;obtain⟨i,j,rfl,rfl,q⟩:=h;obtain⟨t,rfl⟩:=rx;obtain⟨t',rfl⟩:=ry;exact rule i j t t' s _ _ ⟨.bl (g i j),H,I,rfl,q⟩
abbrev JU (i j:Int):Prop:=0<j/\j<1073741824
abbrev BC (i j:Int):Prop:=0<=j/\j<=1000000/\i.natAbs<2 ^ 64
abbrev qa (i j:Int):Prop:=(-(2 ^ 64)<i/\i<2 ^ 64)\/(-(2 ^ 64)<j/\j<2 ^ 64)
def qa.ok {i j:Int}(h:qa i j):IntMulOk i j:=by
 rcases h with⟨h1,h2⟩|⟨h1,h2⟩
 .exact .of_left (intBits_le_64 h1 h2)
 .exact .of_right (intBits_le_64 h1 h2)
def Dn:cU X (binaryOp .Add) (BL λi j=>.int (i+j)):=Gm λ_ _ _ _ _ _ _ q=>add_int q
def FI:cU X (binaryOp .Sub) (BL λi j=>.int (i-j)):=Gm λ_ _ _ _ _ _ _ q=>sub_int q
def Eh:cU X (binaryOp .Mult) (rI qa λi j=>.int (i*j)):=IL λ_ _ _ _ _ _ _ hc q=>mul_int q hc.ok
def Aq:cU X (binaryOp .FloorDiv) (rI JU λi j=>.int (i / j)):=IL λi j _ _ _ _ _ hc q=>by
 have h1:(0:Int)<j:=hc.1;have h2:j<1073741824:=hc.2;exact floordiv_int nofun (by rw[Int.fdiv_eq_ediv_of_nonneg i nofun];exact q) (.inl (PyProof.noPylong_small nofun))
def EM:cU X (binaryOp .Mod) (rI (λ_ j=>0<j) λi j=>.int (i % j)):=IL λi j _ _ _ _ _ hc q=>by
 have h1:(0:Int)<j:=hc;exact mod_int' nofun (by rw[Int.fmod_eq_emod_of_nonneg i nofun];exact q)
def Ea:cU X (binaryOp .Pow) (rI BC λi j=>.int (i ^ j.toNat)):=IL λ_ _ _ _ _ _ _ hc q=>pow_int_small hc.1 hc.2.1 hc.2.2 q
def Lf {f:Value->Sem Value}{g:Int->Int}
  (rule:∀ (i:Int) (t:Tok) (s:Shared) (Q:LD) (E:LD),Q (.int (g i) s.toks) { s with toks:=s.toks+1 }->wpAny (model X.prog X.w) X.A (f (.int i t)) Q E s):
  Jd X f (rU λi=>.int (g i)):=by
 intro Y s U H x v Q I rx h;obtain⟨i,rfl,q⟩:=h;obtain⟨t,rfl⟩:=rx;exact rule i t s _ _ ⟨.int (g i),H,I.tok _,⟨_,rfl⟩,q⟩
def Fg:Jd X (unaryOp .USub) (rU λi=>.int (-i)):=Lf λ_ _ _ _ _ q=>neg_int q
end
section
variable {X:Cx}{a b c:Expr}{ta tb tc:TE}{pos:Pos}
def zO {Q:VK}{k k':Bool}(I:Inv X Y U H s)(q:Q (.bl k) H)(e:k=k'):EP X Y U Q (.bool k') s:=by
 subst e;exact⟨.bl k,H,I,rfl,q⟩
def IF:cU X (compareOp .Lt) (BL λi j=>.bl (decide (i<j))):=AW λ_ _ _ _ _ _ _ q=>lt_int q
def G2:cU X (compareOp .LtE) (BL λi j=>.bl (decide (i<=j))):=AW λ_ _ _ _ _ _ _ q=>le_int q
def HL:cU X (compareOp .Gt) (BL λi j=>.bl (decide (j<i))):=AW λ_ _ _ _ _ _ _ q=>gt_int q
def HE:cU X (compareOp .GtE) (BL λi j=>.bl (decide (j<=i))):=AW λ_ _ _ _ _ _ _ q=>ge_int q
def DW:cU X (compareOp .Is) (λx y H Q=>y=.non/\Q (.bl (decide (x=.non))) H):=by
 intro Y s U H x y v u Q I rx ry h;obtain⟨rfl,q⟩:=h;cases ry;refine is_none_gen (zO I q ?_);cases x<;>first
  |(cases rx;rfl)
  |(obtain⟨t,rfl⟩:=rx;rfl)
def BD:cU X (compareOp .IsNot) (λx y H Q=>y=.non/\Q (.bl (!decide (x=.non))) H):=by
 intro Y s U H x y v u Q I rx ry h;obtain⟨rfl,q⟩:=h;cases ry;refine isnot_none_gen (zO I q ?_);cases x<;>first
  |(cases rx;rfl)
  |(obtain⟨t,rfl⟩:=rx;rfl)
def AA {op:CmpOp}(ho:cU X (compareOp op) r)(ha:PE X a ta)(hb:PE X b tb)(hm:behindInMarks op b=false):PE X (.Compare a [op] [b] pos) (IS r ta tb):=by
 intro Y s U H Q I h;exact wpAny_Compare1 (Fb ha hb I h λv u s2 x y H2 I2 rx ry q=>ho Y s2 U H2 x y v u Q I2 rx ry q) hm
abbrev CP (t:TE):TT:=λU H Q=>t U H λx H'=>∃ k,x=.bl k/\Q k H'
def AD {op:CmpOp}(ho:cU X (compareOp op) r)(ha:PE X a ta)(hb:PE X b tb)(hm:behindInMarks op b=false):PT X (.Compare a [op] [b] pos) (CP (IS r ta tb)):=by
 intro Y s U H Q I h;refine wpAny_isTrue_Compare1 (aA (ha Y s U H _ I h) λv s1 ⟨x,H1,I1,r1,q1⟩=>aA (hb Y s1 U H1 _ I1 q1) λu s2 ⟨y,H2,I2,r2,q2⟩=>
  aA (ho Y s2 U H2 x y v u _ I2 r1 r2 q2) λc s3 ⟨z,H3,I3,r3,k,e,q3⟩=>?_) hm
 subst e;cases r3;exact bi ⟨H3,I3,q3⟩
abbrev xE (r r':R2)(ta tb tc:TE):TE:=λU H Q=>ta U H λx H1=>tb U H1 λy H2=>r x y H2 λz H3=>∃ k,z=.bl k/\
 (if k=true then tc U H3 λw' H4=>r' y w' H4 Q else Q (.bl false) H3)
def xh {op op':CmpOp}{r':R2}(ho:cU X (compareOp op) r)(ho':cU X (compareOp op') r')(ha:PE X a ta)(hb:PE X b tb)(hc:PE X c tc)
  (hm:lastMarks [op,op'] [b,c]=false:=by with_unfolding_all rfl):PE X (.Compare a [op,op'] [b,c] pos) (xE r r' ta tb tc):=by
 intro Y s U H Q I h;refine Compare_chain (aA (ha Y s U H _ I h) λv s1 ⟨x,H1,I1,r1,q1⟩=>chain_link (aA (hb Y s1 U H1 _ I1 q1) λu s2 ⟨y,H2,I2,r2,q2⟩=>
  aA (ho Y s2 U H2 x y v u _ I2 r1 r2 q2) λd s3 ⟨z,H3,I3,r3,k,e,q3⟩=>?_)) hm
 subst e;cases r3;refine bi ?_;cases k with
 |false=>exact ite_ff ⟨.bl false,H3,I3,rfl,q3⟩
 |true=>exact ite_tt (chain_last (aA (hc Y s3 U H3 _ I3 q3) λw' s4 ⟨z',H4,I4,r4,q4⟩=>ho' Y s4 U H4 y z' u w' Q I4 r2 r4 q4))
def xi {op op':CmpOp}{r':R2}(ho:cU X (compareOp op) r)(ho':cU X (compareOp op') r')(ha:PE X a ta)(hb:PE X b tb)(hc:PE X c tc)
  (hm:lastMarks [op,op'] [b,c]=false:=by with_unfolding_all rfl):PT X (.Compare a [op,op'] [b,c] pos) (CP (xE r r' ta tb tc)):=by
 intro Y s U H Q I h;refine isTrue_chain (aA (ha Y s U H _ I h) λv s1 ⟨x,H1,I1,r1,q1⟩=>test_link (aA (hb Y s1 U H1 _ I1 q1) λu s2 ⟨y,H2,I2,r2,q2⟩=>
  aA (ho Y s2 U H2 x y v u _ I2 r1 r2 q2) λd s3 ⟨z,H3,I3,r3,k,e,q3⟩=>?_)) hm
 subst e;cases r3;refine bi ?_;cases k with
 |false=>
  obtain⟨k',e',q'⟩:=q3;cases e';exact ite_ff ⟨H3,I3,q'⟩
 |true=>
  refine ite_tt (test_last (aA (hc Y s3 U H3 _ I3 q3) λw' s4 ⟨z',H4,I4,r4,q4⟩=>aA (ho' Y s4 U H4 y z' u w' _ I4 r2 r4 q4) λd' s5 ⟨z2,H5,I5,r5,k2,e2,q5⟩=>?_));subst e2;cases r5;exact bi ⟨H5,I5,q5⟩
abbrev Ab (K:W.Frag)(x:V)(H:Hp)(k:Bool):Prop:=
 match x with
 | .non=>k=false
 | .bl b=>k=b
 | .int i=>k=(i != 0)
 | .str y=>y.length<=bn/\k=((y.length:Int) != 0)
 | .byt y=>y.size<=bn/\k=((y.size:Int) != 0)
 | .ref p=>(∃ xs,bj K H p xs/\k= !xs.isEmpty)\/(∃ xs,bg K H p xs/\k= !xs.isEmpty)\/∃ kvs,H p=some (.dK kvs)/\k= !kvs.isEmpty
 |_=>False
def sF {κ:Type}{kvs:List (κ×V)}{vs:List (κ×Value)}(r:KV kvs vs):(!vs.isEmpty)= !kvs.isEmpty:=by
 cases r<;>rfl
def kh {its:List Value}(r:Vals xs its):(!its.toArray.isEmpty)= !xs.isEmpty:=by
 cases r<;>simp
def il:(bn:Nat)<2 ^ 63:=by rw[sizeLine_eq];decide
def Ei:Jw X (λx H Q=>∃ k,Ab X.K x H k/\Q k H):=by
 intro Y s U H x v Q I rx h;obtain⟨k,e,q⟩:=h;have hl:=il;have hs:bn=16777216:=sizeLine_eq;cases x with
 |non=>
  cases rx;have e':k=false:=e;subst e';exact truthy_none ⟨H,I,q⟩
 |bl b=>
  cases rx;have e':k=b:=e;subst e';exact bi ⟨H,I,q⟩
 |int i=>
  obtain⟨t,rfl⟩:=rx;have e':k=(i != 0):=e;subst e';exact PySem.P.truthy_int ⟨H,I,q⟩
 |str y=>
  obtain⟨t,rfl⟩:=rx;obtain⟨hy,e'⟩:y.length<=bn/\k=((y.length:Int) != 0):=e;subst e';exact PySem.P.truthy_str nofun ⟨H,I.tok _,q⟩
 |byt y=>
  obtain⟨t,rfl⟩:=rx;obtain⟨hy,e'⟩:y.size<=bn/\k=((y.size:Int) != 0):=e;subst e';exact W.truthy_bytes nofun ⟨H,I.tok _,q⟩
 |ref p=>
  cases rx;have e':(∃ xs,bj X.K H p xs/\k= !xs.isEmpty)\/(∃ xs,bg X.K H p xs/\k= !xs.isEmpty)\/∃ kvs,H p=some (.dK kvs)/\k= !kvs.isEmpty:=e;rcases e' with⟨xs,hx,e'⟩|⟨xs,hx,e'⟩|⟨kvs,hx,e'⟩
  .subst e';obtain⟨its,r,pl,hz⟩:=I.list hx;have hlen:=r.length;exact wpAny_truthy_list pl.isList (by simp only[ge];omega) ⟨H,I.tok _,by rw[kh r];exact q⟩
  .subst e';obtain⟨its,r,pl,hz⟩:=I.tuple hx;have hlen:=r.length;exact truthy_tuple pl (by simp only[ge];omega) ⟨H,I.tok _,by rw[kh r];exact q⟩
  .subst e';obtain⟨hz,hS,vs,r,m⟩:kvs.length<=bn/\(p ==sysModules)=false/\∃ vs,KV kvs vs/\s.heap.DictOf (av X.prog X.w) p vs:=I.hok p _ hx;have hlen:kvs.length=vs.length:=Paired.length r;exact wpAny_truthy_dict hS m nofun ⟨H,I.tok _,by rw[sF r];exact q⟩
 |_=>exact(show False from e).elim
def zw (ha:PE X a ta)(he:∀ whole,isTrue a X.env whole=(do let v <-whole;standAt a.pos;holding [v] (truthy v))):
  PT X a (λU H Q=>ta U H λx H'=>∃ k,Ab X.K x H' k/\Q k H'):=by
 intro Y s U H Q I h;exact isTrue_plain (aA (ha Y s U H _ I h) λv s1 ⟨x,H1,I1,r1,q1⟩=>Ei Y s1 U H1 x v Q I1 r1 q1) (he _)
def sC:cU X (binaryOp .Add) (λx y H Q=>∃ i j,x=.str i/\y=.str j/\i.length+j.length<=bn/\Q (.str (i++j)) H):=by
 intro Y s U H x y v u Q I rx ry h;obtain⟨i,j,rfl,rfl,hz,q⟩:=h;obtain⟨t,rfl⟩:=rx;obtain⟨t',rfl⟩:=ry;exact add_str (λt' tk=>⟨.str (i++j),H,I.tok _,⟨_,rfl⟩,q⟩) hz
def vals1 {x:V}(r:Vals [x] us):∃ u,us=[u]/\RelV x u:=by
 cases r with
 |cons r1 r2=>cases r2;exact⟨_,rfl,r1⟩
def vals2 {x y:V}(r:Vals [x,y] us):∃ u w',us=[u,w']/\RelV x u/\RelV y w':=by
 cases r with
 |cons r1 r2=>
  cases r2 with
  |cons r3 r4=>cases r4;exact⟨_,_,rfl,r1,r3⟩
def vN (hc:X.calm=true):dc X (.builtin "min") (λxs H Q=>∃ i j,xs=[.int i,.int j]/\Q (.int (if j<i then j else i)) H):=by
 intro Y s U H xs us Q I r h;obtain⟨i,j,rfl,q⟩:=h;obtain⟨u,w',rfl,⟨t,rfl⟩,⟨t',rfl⟩⟩:=vals2 r;refine min_two_ints (I.ok.hd hc) λh' tk k=>⟨_,H,I.kept k,?_,q⟩
 by_cases hj:j<i
 .rw[if_pos hj,if_pos hj];exact⟨_,rfl⟩
 .rw[if_neg hj,if_neg hj];exact⟨_,rfl⟩
def ve:dc X (.type "int") (λxs H Q=>(∃ i,xs=[.int i]/\Q (.int i) H)\/∃ k,xs=[.bl k]/\Q (.int (if k then 1 else 0)) H):=by
 intro Y s U H xs us Q I r h;rcases h with⟨i,rfl,q⟩|⟨k,rfl,q⟩
 .obtain⟨u,rfl,t,rfl⟩:=vals1 r;exact call_int_int ⟨.int i,H,I,⟨_,rfl⟩,q⟩
 .obtain⟨u,rfl,r1⟩:=vals1 r;cases r1;exact call_int_bool ⟨.int (if k then 1 else 0),H,I.tok _,⟨_,rfl⟩,q⟩
def nI:dc X (.type "str") (λxs H Q=>∃ i,xs=[.int i]/\i.natAbs.log2<1920/\Q (.str (toString i)) H):=by
 intro Y s U H xs us Q I r h;obtain⟨i,rfl,hz,q⟩:=h;obtain⟨u,rfl,t,rfl⟩:=vals1 r;exact PySem.P.str_of_int hz ⟨.str _,H,I.tok _,⟨_,rfl⟩,q⟩
abbrev Ib (K:W.Frag)(x:V)(H:Hp)(n:Nat):Prop:=
 match x with
 | .str y=>y.length<=bn/\n=y.length
 | .byt y=>y.size<=bn/\n=y.size
 | .ref p=>(∃ xs,bj K H p xs/\n=xs.length)\/∃ xs,bg K H p xs/\n=xs.length
 |_=>False
def zg:dc X (.builtin "len") (λxs H Q=>∃ x n,xs=[x]/\Ib X.K x H n/\Q (.int n) H):=by
 intro Y s U H xs us Q I r h;obtain⟨x,n,rfl,e,q⟩:=h;obtain⟨u,rfl,rx⟩:=vals1 r;have hl:=il;have hs:bn=16777216:=sizeLine_eq;cases x with
 |str y=>
  obtain⟨t,rfl⟩:=rx;obtain⟨hy,e'⟩:y.length<=bn/\n=y.length:=e;subst e';exact len_str nofun ⟨.int _,H,I.tok _,⟨_,rfl⟩,q⟩
 |byt y=>
  obtain⟨t,rfl⟩:=rx;obtain⟨hy,e'⟩:y.size<=bn/\n=y.size:=e;subst e';exact W.len_bytes nofun ⟨.int _,H,I.tok _,⟨_,rfl⟩,q⟩
 |ref p=>
  cases rx;have e':(∃ xs,bj X.K H p xs/\n=xs.length)\/∃ xs,bg X.K H p xs/\n=xs.length:=e;rcases e' with⟨xs,hx,e'⟩|⟨xs,hx,e'⟩
  .subst e';obtain⟨its,r',pl,hz⟩:=I.list hx;have hlen:=r'.length;exact Calls.call_len_list pl.isList (by simp only[ge];omega) ⟨.int xs.length,H,I.tok _,⟨_,by simp only[ge];rw[hlen]⟩,q⟩
  .subst e';obtain⟨its,r',pl,hz⟩:=I.tuple hx;have hlen:=r'.length;exact len_tuple pl (by simp only[ge];omega) ⟨.int xs.length,H,I.tok _,⟨_,by simp only[ge];rw[hlen]⟩,q⟩
 |_=>exact(show False from e).elim
end
structure sG (h:Heap) (x dx C:Addr) (mA:LG):Prop where
 obj:h.get? x=some (W.instObj C dx)
 ns:h.Ns1 dx mA
 ne:dx≠x
variable {mA:LG}
def g9 {dx:Addr}(n:h.Ns1 dx mA):∃ od,h.get? dx=some od/\∀ name,W.lookIn name od=some (mA name):=by
 obtain⟨o,es,ep,ho,hd,hk,_,hm⟩:=n;refine⟨o,ho,λname=>?_⟩;have e:=hm name;unfold nsFind findBy at e;rw[<-Array.find?_toList]at e;unfold W.lookIn;rw[hd];dsimp only
 split
 .rename_i y q;rw[q]at e;exact congrArg some e
 .rename_i q;rw[q]at e;have a:es.toList.any (·.refKey)=false:=by
   rw[any_eq_false];intro y hy;obtain⟨z,t,hkey⟩:=hk y (Array.mem_toList_iff.mp hy);simp[DictEntry.refKey,hkey]
  have a':¬ es.toList.any (·.refKey)=true:=by rw[a];exact Bool.false_ne_true
  rw[if_neg a'];exact congrArg some e
variable {C:Addr}
def sG.look {x dx:Addr}(I:sG h x dx C mA):∃ od,W.InstAt h x (W.instObj C dx) C (some od)/\∀ name,W.lookIn name od=some (mA name):=
 let⟨od,ho,hl⟩:=g9 I.ns
 ⟨od,⟨I.obj,rfl,rfl,ho⟩,hl⟩
variable {pl:Sem Bool}{kw:List (Str×Value)}
section
variable {prog:Program}{w:World}{A:Around}{E:LD}{s:Shared}{K:W.Frag}{x dx C f:Addr}{mA:LG}{name:Str}{v:Value}
def get_map {expr:Bool}(X:K.In s.heap)(I:sG s.heap x dx C mA)(hg:W.plainGet K C name=true)(hh:W.hasDictIn K C=true)
  (ha:W.findIn K (.ref C) name=some none) (hv:mA name=some v) (hv':W.handedIn v=true) (h:Q v { s with toks:=s.toks+1 }):
  wpAny (model prog w) A (getAttr (.ref x) name expr) Q E s:=by
 obtain⟨od,J,hl⟩:=I.look;exact W.get_value X J (W.plainGet_of hg).1 (W.findObj_own hh ha rfl (by rw[hl,hv])) hv' h
def yY {Q:Value×List Value->Shared->Prop}(X:K.In s.heap)(I:sG s.heap x dx C mA)(hg:W.plainGet K C name=true)
  (hf:W.findIn K (.ref C) name=some (some (.ref f))) (ht:W.isFn K (.ref f)=true) (hv:mA name=none) (h:Q (.ref f,[.ref x]) s):
  wpAny (model prog w) A (getMethod (.ref x) name pl) Q E s:=by
 obtain⟨od,J,hl⟩:=I.look;exact W.method_fn X J (W.plainGet_of hg).1 (W.plainGet_of hg).2 hf (beq_iff_eq.mp ht) (by show(W.lookIn name od).map (·.isSome)=some false;rw[hl,hv];rfl) h
def AL {ns:List Str}{Q:LB}(X:K.In s.heap)(I:sG s.heap x dx C mA)
  (hs:W.findIn K (.ref C) "__setattr__"=some (some (.builtin "object.__setattr__"))) (hp:W.plainOver K C=true) (ht:W.takerIn K C name=some none) (hh:W.hasDictIn K C=true)
  (hw:PySem.Within mA ns) (hsz:ns.length<=bn)
  (h:∀ h',sG h' x dx C (λy=>if y=name then some v else mA y)->Heap.SameBut dx s.heap h'->Q () { s with heap:=h',toks:=s.toks+2 }):
  wpAny (model prog w) A (setAttr (.ref x) name v) Q E s:=by
 obtain⟨od,J,hl⟩:=I.look;refine W.set_plain X J hs (W.osa_open (s:={ s with toks:=s.toks+1 }) (r:=none) X J hp ht λb=>?_);obtain⟨cd,hc,hd'⟩:=W.any_some hh;have hx:s.heap.get? x=some ⟨.ref C,some dx,.plain,#[]⟩:=I.obj;refine ad (am (ad (ad (wpAny_loadPart hx (ad (W.Looks.here (s:={ s with toks:=s.toks+1 }) (W.looks_clsIn X hc) ?_))))));rw[hd'];refine am (a:=some dx) (ad (am (ad ?_)));refine wpAny_nsSet1 (s:={ s with toks:=s.toks+1 }) I.ns λh' hn2 hs2=>?_
 obtain⟨oD,esD,epD,hoD,hdD,hcD⟩:=hn2.count (PySem.Within.cons name v hw);refine ad (wpAny_lookBehind hoD (by rw[hdD];exact pastItsLine_dict (Nat.le_trans hcD (by rw[length_cons];omega))) ?_);exact am (h _ ⟨(hs2.2 _ (Ne.symm I.ne)).trans I.obj,hn2,I.ne⟩ hs2)
def yx {R:Result->Shared->Prop}{vs:List Value}(X:K.In s.heap)(hm:W.makesIn K C=true)
  (hi:W.findIn K (.ref C) "__init__"=some (some (.ref f))) (hf:W.typeIn K (.ref f)=some (.type "function"))
  (h:codeAny (model prog w) (A.under (.builtin "type.__call__" ⟨.ref C::vs,kw⟩)) (.call (.ref f) ⟨.ref (s.heap.objs.size+1)::vs,kw⟩) (W.InitBack (s.heap.objs.size+1) R)
   { s with heap:=(s.heap.push W.emptyDict).push (W.instObj C s.heap.objs.size) }):
  codeAny (model prog w) A (.call (.ref C) ⟨vs,kw⟩) R s:=by
 obtain⟨hh,g,d,t,os⟩:=s;exact W.make_core (W.makes_of X hm) (W.looks_findIn X hi) (λself=>W.bind_fn X self hf) (.inl rfl) h
end
abbrev cF (f:Str)(v:V):List (Str×V)->List (Str×V)
 | []=>[(f,v)]
 |(g,x)::r=>if g=f then(g,v)::r else(g,x)::cF f v r
def eE (f g:Str)(v:V):∀ fs:List (Str×V),(cF f v fs).lookup g=if g=f then some v else fs.lookup g
 | []=>by
  show List.lookup g [(f,v)]=_
  by_cases h:g=f
  .have hb:(g ==f)=true:=beq_iff_eq.mpr h;simp only[List.lookup,hb,if_pos h]
  .have hb:(g ==f)=false:=beq_eq_false_iff_ne.mpr h;simp only[List.lookup,hb,if_neg h]
 |(k,x)::r=>by
  have ih:=eE f g v r;rw[show cF f v ((k,x)::r)=(if k=f then(k,v)::r else(k,x)::cF f v r) from rfl]
  by_cases hk:k=f
  .rw[if_pos hk]
   by_cases h:g=k
   .have hb:(g ==k)=true:=beq_iff_eq.mpr h;simp only[List.lookup,hb,if_pos (h.trans hk)]
   .have hb:(g ==k)=false:=beq_eq_false_iff_ne.mpr h;simp only[List.lookup,hb,if_neg (λe:g=f=>h (e.trans hk.symm))]
  .rw[if_neg hk]
   by_cases h:g=k
   .have hb:(g ==k)=true:=beq_iff_eq.mpr h;simp only[List.lookup,hb,if_neg (λe:g=f=>hk (h.symm.trans e))]
   .have hb:(g ==k)=false:=beq_eq_false_iff_ne.mpr h;simp only[List.lookup,hb];exact ih
def dg (f:Str)(v:V):∀ fs:List (Str×V),f ∈ (cF f v fs).map (·.1)/\∀ g,g ∈ fs.map (·.1)->g ∈ (cF f v fs).map (·.1)
 | []=>⟨by simp[cF],λg h=>by simp at h⟩
 |(k,x)::r=>by
  obtain⟨i1,i2⟩:=dg f v r;rw[show cF f v ((k,x)::r)=(if k=f then(k,v)::r else(k,x)::cF f v r) from rfl]
  by_cases hk:k=f
  .rw[if_pos hk];subst hk;exact⟨by simp,λg h=>by simpa using h⟩
  .rw[if_neg hk];refine⟨?_,λg h=>?_⟩
   .rw[map_cons];exact dl _ i1
   .rw[map_cons]at h⊢;rcases mo.mp h with e|e
    .exact mo.mpr (.inl e)
    .exact dl _ (i2 g e)
def eU (f:Str)(v:V):∀ fs:List (Str×V),(cF f v fs).length<=fs.length+1
 | []=>by simp[cF]
 |(k,x)::r=>by
  have ih:=eU f v r;rw[show cF f v ((k,x)::r)=(if k=f then(k,v)::r else(k,x)::cF f v r) from rfl]
  by_cases hk:k=f
  .rw[if_pos hk,length_cons,length_cons];omega
  .rw[if_neg hk,length_cons,length_cons];omega
def cL.some_of {o:Option Value}(r:cL (some v) o):∃ u,o=some u/\RelV v u:=by
 cases o with
 |none=>exact(show False from r).elim
 |some u=>exact⟨u,rfl,r⟩
def cL.none_of {o:Option Value}(r:cL none o):o=none:=by
 cases o with
 |none=>rfl
 |some u=>exact(show False from r).elim
def mx (r:RelV v u):W.handedIn u=true:=by
 cases v with
 |non=>cases(show u=Value.none from r);rfl
 |bl b=>cases(show u=Value.bool b from r);rfl
 |int i=>obtain⟨t,e⟩:=(show ∃ t,u=Value.int i t from r);cases e;rfl
 |str x=>obtain⟨t,e⟩:=(show ∃ t,u=Value.str x t from r);cases e;rfl
 |byt b=>obtain⟨t,e⟩:=(show ∃ t,u=Value.bytes b t from r);cases e;rfl
 |flt b=>obtain⟨t,e⟩:=(show ∃ t,u=Value.float b t from r);cases e;rfl
 |ref a=>cases(show u=Value.ref a from r);rfl
 |ty n=>cases(show u=Value.type n from r);rfl
section
variable {P:Program}{w:World}{H H':Hp}{h h':Heap}{a C dx:Addr}{fs fs':List (Str×V)}
def gU (hok:fR P w H h)(e:H a=some (.ins C dx fs)):∃ mA,sG h a dx C mA/\(∀ f,cL (fs.lookup f) (mA f))/\PySem.Within mA (fs.map (·.1))/\fs.length<=1000/\H dx=some (.own a):=by
 obtain⟨d,z,ne,ob,mA,n,r,q⟩:=(show aL P w H h a (.ins C dx fs) from hok a _ e);exact⟨mA,⟨ob,n,ne⟩,r,q,z,d⟩
end
structure Cg (K:W.Frag) (C:Addr):Prop where
 pg:W.plainGet K C Str.empty=true
 hd:W.hasDictIn K C=true
 po:W.plainOver K C=true
 sa:W.findIn K (.ref C) "__setattr__"=some (some (.builtin "object.__setattr__"))
def Cg.get {K:W.Frag}(c:Cg K C)(f:Str):W.plainGet K C f=true:=c.pg
abbrev eO (K:W.Frag)(C:Addr)(f:Str):Prop:=W.findIn K (.ref C) f=some none
def eO.HZ {K:W.Frag}{f:Str}(n:eO K C f):W.takerIn K C f=some none:=by
 unfold W.takerIn;rw[show W.findIn K (.ref C) f=some none from n]
 rfl
structure Meth (K:W.Frag) (C:Addr) (m:Str) (f:Addr):Prop where
 at_:W.findIn K (.ref C) m=some (some (.ref f))
 fn:W.isFn K (.ref f)=true
 kp:W.keepIn K (.ref f)=true
section
variable {X:Cx}{Y:LF}{U:St}{H:Hp}{s:Shared}{a C dx:Addr}{fs:List (Str×V)}{f:Str}{v:V}{A:Around}{E:LD}
def rX {b:Bool}(I:Inv X Y U H s)(e:H a=some (.ins C dx fs))(c:Cg X.K C)(n:eO X.K C f)(l:fs.lookup f=some v)
  (h:∀ u s',Inv X Y U H s'->RelV v u->Q u s'):wpAny (model X.prog X.w) A (getAttr (.ref a) f b) Q E s:=by
 obtain⟨mA,O,r,_,_,_⟩:=gU I.hok e;obtain⟨u,hu,ru⟩:=cL.some_of (v:=v) (o:=mA f) (by rw[<-l];exact r f);exact get_map I.bL O (c.get f) c.hd n hu (mx ru) (h u _ (I.tok _) ru)
def rf {m:Str}{g:Addr}{Q:Value×List Value->Shared->Prop}(I:Inv X Y U H s)(e:H a=some (.ins C dx fs))(c:Cg X.K C)(k:Meth X.K C m g)(l:fs.lookup m=none)
  (h:Q (.ref g,[.ref a]) s):wpAny (model X.prog X.w) A (getMethod (.ref a) m pl) Q E s:=by
 obtain⟨mA,O,r,_,_,_⟩:=gU I.hok e;have hn:mA m=none:=cL.none_of (by rw[<-l];exact r m);exact yY I.bL O (c.get m) k.at_ k.fn hn h
def rH {y:V}{Q:LB}(I:Inv X Y U H s)(e:H a=some (.ins C dx fs))(c:Cg X.K C)(n:eO X.K C f)(hl:fs.length<1000)(ry:RelV y u)
  (h:∀ s',Inv X Y U (upd H a (.ins C dx (cF f y fs))) s'->Q () s'):wpAny (model X.prog X.w) A (setAttr (.ref a) f u) Q E s:=by
 obtain⟨mA,O,r,wi,_,ho⟩:=gU I.hok e;have hz:(fs.map (·.1)).length<=bn:=by rw[ce,sizeLine_eq];omega
 refine AL I.bL O c.sa c.po n.HZ c.hd wi hz λh' O' sb=>h _ ?_
 have hd:∃ o,h'.get? dx=some o:=let⟨o,_,_,e',_⟩:=O'.ns;⟨o,e'⟩;refine I.write (x:=a) (e:=dx) (by rw[e];exact True.intro) (.inr ho) (λb q hb z=>(sb.2 b hb).trans z) hd ?_;refine⟨by rw[ak O.ne];exact ho,?_,O.ne,O'.obj,_,O'.ns,λg=>?_,λg hg=>?_⟩
 .have:=eU f y fs;omega
 .show cL ((cF f y fs).lookup g) (if g=f then some u else mA g);rw[eE]
  by_cases q:g=f
  .rw[if_pos q,if_pos q];exact ry
  .rw[if_neg q,if_neg q];exact r g
 .by_cases q:g=f
  .rw[q];exact(dg f y fs).1
  .refine(dg f y fs).2 g (wi g λz=>hg ?_);show(if g=f then some u else mA g)=none;rw[if_neg q];exact z
def Inv.made (I:Inv X Y U H s):Inv X Y U (upd (upd H s.heap.objs.size (.own (s.heap.objs.size+1))) (s.heap.objs.size+1) (.ins C s.heap.objs.size []))
  { s with heap:=(s.heap.push W.emptyDict).push (W.instObj C s.heap.objs.size) }:=by
 have e1:(s.heap.push W.emptyDict).get? s.heap.objs.size=some W.emptyDict:=ul s.heap rfl;have e2:((s.heap.push W.emptyDict).push (W.instObj C s.heap.objs.size)).get? (s.heap.objs.size+1)=some (W.instObj C s.heap.objs.size):=by
  have:=ul (s.heap.push W.emptyDict) (o:=W.instObj C s.heap.objs.size) rfl
  rwa [Heap.size_push]at this
 have e3:(s.heap.push W.emptyDict).Ns s.heap.objs.size (λ_=>none):=⟨W.emptyDict,#[],_,e1,rfl,(λe he=>absurd he (by simp)),λ_=>rfl⟩;have I1:=I.laid (a:=s.heap.objs.size) (o:=.own (s.heap.objs.size+1)) (h':=s.heap.push W.emptyDict) (t':=s.toks) (λb u q=>sK _ q) (pi _) ⟨_,e1⟩;refine I1.laid (a:=s.heap.objs.size+1) (o:=.ins C s.heap.objs.size []) (t':=s.toks) (λb u q=>sK _ q) (Nat.le_of_eq (Heap.size_push _ _)) ?_;have ne:s.heap.objs.size≠s.heap.objs.size+1:=pc (Nat.lt_succ_self _);refine⟨by rw[ak ne,aB],Nat.zero_le _,ne,e2,λ_=>none,(Heap.Ns1.of_empty e3).at λo q=>sK _ q,λ_=>True.intro,λy hy=>absurd rfl hy⟩
def By {prog:Program}{env:Env}(hb:attributeBase e f env (eval e env)=eval e env)
  (h:wpAny (model prog w) A (eval e env) (λo s₁=>wpAny (model prog w) A (getAttr o f true) Q E s₁) E s):wpAny (model prog w) A (eval (.Attribute e f pos) env) Q E s:=
 Attribute_any_ h (by rw[arm_eval_Attribute,hb])
end
section
variable {X:Cx}{o e value:Expr}{f:Str}{pos pos' tpos:Pos}{ta tv:TE}
end
section
variable {X:Cx}{Y:LF}{U:St}{H:Hp}{s:Shared}{A:Around}{E:LD}{Q:LD}{c:Value}{b:Bool}
inductive iB (K:W.Frag) (H:Hp):V->Value->Prop where
 |non:iB K H .non (.type "NoneType")
 |bl (x:Bool):iB K H (.bl x) (.type "bool")
 |int (i:Int):iB K H (.int i) (.type "int")
 |str (x:Str):iB K H (.str x) (.type "str")
 |flt (x:UInt64):iB K H (.flt x) (.type "float")
 |lst {a:Addr}{xs:List V}(e:H a=some (.lst xs)):iB K H (.ref a) (.type "list")
 |frz {a:Addr}{o:Obj}{xs:List V}(e:H a=some (.frz o (.lst xs))):iB K H (.ref a) (.type "list")
 |tup {a:Addr}{xs:List V}(e:H a=some (.tup xs)):iB K H (.ref a) (.type "tuple")
 |dK {a:Addr}{kvs:List (Key×V)}(e:H a=some (.dK kvs)):iB K H (.ref a) (.type "dict")
 |dT {a:Addr}{kvs:List (List Key×V)}(e:H a=some (.dT kvs)):iB K H (.ref a) (.type "dict")
 |ins {a C dx:Addr}{fs:List (Str×V)}(e:H a=some (.ins C dx fs)) (cl:Cg K C) (ha:W.findIn K (.ref C) "__class__"=some (some (.builtin "object.__class__")))
   (hn:W.specialIn K (.builtin "object.__class__") "__get__"=some (some (.builtin "getset_descriptor.__get__"))) (htk:W.takesIn K (.builtin "object.__class__")=some true)
   (hm:W.mroIn K C (.type "object")=some true):iB K H (.ref a) (.ref C)
def iG {x:V}{t:Value}(I:Inv X Y U H s)(rx:RelV x u)(ty:iB X.K H x t)(e:W.kitOne X.K t c=some b)(h:∀ tk,Q (.bool b) { s with toks:=tk }):
  wpAny (model X.prog X.w) A (call (.builtin "isinstance") [u,c]) Q E s:=by
 cases ty with
 |non=>cases(show u=Value.none from rx);exact W.kia_one W.kitx_none I.bL True.intro e (λz=>nomatch z) h
 |bl y=>cases(show u=Value.bool y from rx);exact W.kia_one W.kitx_bool I.bL True.intro e (λz=>nomatch z) h
 |int i=>obtain⟨t,q⟩:=(show ∃ t,u=Value.int i t from rx);cases q;exact W.kia_one W.kitx_int I.bL True.intro e (λz=>nomatch z) h
 |str y=>obtain⟨t,q⟩:=(show ∃ t,u=Value.str y t from rx);cases q;exact W.kia_one W.kitx_str I.bL True.intro e (λz=>nomatch z) h
 |flt y=>obtain⟨t,q⟩:=(show ∃ t,u=Value.float y t from rx);cases q;exact W.kia_one W.kitx_float I.bL True.intro e (λz=>nomatch z) h
 | @lst a xs ea=>
  cases(show u=Value.ref a from rx);obtain⟨_,_,n,_,h1⟩:=(show aL X.prog X.w H s.heap a (.lst xs) from I.hok a _ ea);exact W.kia_one W.kitx_list I.bL ⟨_,h1,rfl⟩ e (λz=>nomatch z) h
 | @frz a ob xs ea=>
  cases(show u=Value.ref a from rx);obtain⟨_,_,_,n,_,h1⟩:=(show aL X.prog X.w H s.heap a (.frz ob (.lst xs)) from I.hok a _ ea);exact W.kia_one W.kitx_list I.bL ⟨_,h1,rfl⟩ e (λz=>nomatch z) h
 | @tup a xs ea=>
  cases(show u=Value.ref a from rx);obtain⟨_,_,_,p⟩:=(show aL X.prog X.w H s.heap a (.tup xs) from I.hok a _ ea);obtain⟨o,h1,h2,_⟩:=p;exact W.kia_one W.kitx_tuple I.bL ⟨o,h1,h2⟩ e (λz=>nomatch z) h
 | @dK a kvs ea=>
  cases(show u=Value.ref a from rx);obtain⟨_,_,vs,_,p⟩:=(show aL X.prog X.w H s.heap a (.dK kvs) from I.hok a _ ea);obtain⟨o,es,ep,h1,h2,_⟩:=p;exact W.kia_one W.kitx_dict I.bL ⟨o,h1,h2.1⟩ e (λz=>nomatch z) h
 | @dT a kvs ea=>
  cases(show u=Value.ref a from rx);obtain⟨_,_,xs,_,o,es,ep,h1,h2,_⟩:=(show aL X.prog X.w H s.heap a (.dT kvs) from I.hok a _ ea);exact W.kia_one W.kitx_dict I.bL ⟨o,h1,h2.1⟩ e (λz=>nomatch z) h
 | @ins a C dx fs ea cl ha hn htk hm=>
  cases(show u=Value.ref a from rx);obtain⟨mA,O,_⟩:=gU I.hok ea;obtain⟨od,J,_⟩:=O.look;exact W.kia_one (W.kitx_own (cl.get _) cl.hd ha hn htk hm) I.bL J e (λz=>nomatch z) h
end
structure bE (k:Nat) (A:Around):Prop where
 hd:A.handled=none
 dp:A.depth+3*k+5<recursionLimit
 un:A.units+16*k+200<cLine
def bE.mono {j:Nat}(r:bE k A)(h:j<=k):bE j A:=⟨r.hd,by have:=r.dp;omega,by have:=r.un;omega⟩
def bE.deeper (r:bE (k+1) A)(env:Env):bE k (A.deeper env):=
 ⟨r.hd,by have:=r.dp;show A.depth+1+3*k+5<_;omega,by have:=r.un;show A.units+3+16*k+200<_;omega⟩
def qR:(A.under (.builtin "type.__call__" ⟨.ref C::us,kw⟩)).depth=A.depth+1:=by
 first|rfl|simp[Around.under,Code.weight,Code.isCreation,Code.isGuard,Code.isCaller,Code.frames,Code.isFrame,guardIds]
def sW:(A.under (.builtin "type.__call__" ⟨.ref C::us,kw⟩)).units=A.units+1:=by
 first|rfl|simp[Around.under,Code.cUnits,Code.frames,Code.isFrame]
def bE.make (r:bE (k+1) A)(C:Addr)(us:List Value)(kw:List (Str×Value)):bE k (A.under (.builtin "type.__call__" ⟨.ref C::us,kw⟩)):=
 ⟨r.hd,by have:=r.dp;rw[qR];omega,by have:=r.un;rw[sW];omega⟩
def bE.depth (r:bE k A):A.depth<recursionLimit:=by have:=r.dp;omega
abbrev BU:TA:=λ_ H Q=>Q [] H
abbrev CO (ta:TE)(tr:TA):TA:=λU H Q=>ta U H λx H1=>tr U H1 λxs H2=>Q (x::xs) H2
section
variable {X:Cx}{e:Expr}{es:List Expr}{te:TE}{t:TA}{pos:Pos}
def dr:PA X [] BU:=λ_ _ _ _ H Q I h=>Calls.spliced_nil ⟨[],H,I,.nil,h⟩
def A7 (ha:PE X e te)(hr:PA X es t)(hs:bm (e::es) X.env=(false,eval e X.env)::bm es X.env:=by rfl):PA X (e::es) (CO te t):=by
 intro pos Y s U H Q I h;rw[hs];show wpAny _ _ (spliced ((false,eval e X.env)::backTo pos (bm es X.env))) _ _ s;refine Calls.spliced_cons (aA (ha Y s U H _ I h) λu s1 ⟨x,H1,I1,r1,q1⟩=>?_);exact aA (hr pos Y s1 U H1 _ I1 q1) λus s2 ⟨xs,H2,I2,r2,q2⟩=>⟨x::xs,H2,I2,.cons r1 r2,q2⟩
abbrev Jn (t:TA):TE:=λU H Q=>t U H λxs H1=>xs.length<=bn/\∀ p,H1 p=none->Q (.ref p) (upd H1 p (.tup xs))
abbrev J0 (t:TA):TE:=λU H Q=>t U H λxs H1=>xs.length<=bn/\∀ p,H1 p=none->Q (.ref p) (upd H1 p (.lst xs))
def Ff {x1} (h:PA X es t):PE X (.Tuple es x1 pos) (Jn t):=by
 intro Y s U H Q I hq;refine wpAny_Tuple_spliced (aA (h pos Y s U H _ I hq) λus s1 ⟨xs,H1,I1,r,z,q⟩=>⟨by rw[<-r.length];exact z,?_⟩);have hf:H1 s1.heap.objs.size=none:=I1.hok.fresh (pi _);refine⟨.ref s1.heap.objs.size,upd H1 s1.heap.objs.size (.tup xs),I1.laid (t':=s1.toks) (λb u e=>sK _ e) (pi _) ?_,rfl,q _ hf⟩;exact⟨z,us,r,⟨_,ul _ rfl,rfl,_,rfl⟩⟩
def EU (h:PA X es t):PE X (.List es pos) (J0 t):=by
 intro Y s U H Q I hq;refine wpAny_List_spliced (aA (h pos Y s U H _ I hq) λus s1 ⟨xs,H1,I1,r,z,q⟩=>⟨by rw[<-r.length];exact z,?_⟩);have hf:H1 s1.heap.objs.size=none:=I1.hok.fresh (pi _);refine⟨.ref s1.heap.objs.size,upd H1 s1.heap.objs.size (.lst xs),I1.laid (t':=s1.toks) (λb u e=>sK _ e) (pi _) ?_,rfl,q _ hf⟩;exact⟨z,us,0,r,ul _ rfl⟩
end
@[reducible]def Sp:=List V->Hp->VK->XK->Prop
@[reducible]def qT:=List Env->Hp->Shared->XK->Value->Shared->Prop
structure rJ (P:Program) (w:World) (K:W.Frag) (mg:LG) (base:Heap) (A:Around) (outer:List Env) (s:Shared) (H:Hp):Prop where
 frames:A.frames=some outer
 mod:Mod K mg base
 bs:∀ b o,base.get? b=some o->s.heap.get? b=some o/\H b=none
 bsz:base.objs.size<=s.heap.objs.size
 js:s.heap.FunFrames base outer
 frf:∀ b ∈ nv outer,H b=none
 hok:fR P w H s.heap
 bare:AllBare s.gens
abbrev CE (outer:List Env)(P:Program)(w:World)(H:Hp)(s:Shared)(Q:VK)(u:Value)(s':Shared):Prop:=
 ∃ v H',s'.os=s.os/\AllBare s'.gens/\Un (nv outer) [] H H' s.heap s'.heap/\fR P w H' s'.heap/\RelV v u/\Q v H'
abbrev CR (CX:qT)(outer:List Env)(P:Program)(w:World)(H:Hp)(s:Shared)(Q:VK)(E:XK)(r:Result)(s':Shared):Prop:=
 match r with
 | .ok (.ret u)=>CE outer P w H s Q u s'
 | .ok _=>False
 | .error e=>CX outer H s E e s'
structure cN (P:Program) (w:World) (K:W.Frag) (mg:LG) (base:Heap) (CX:qT) (k:Nat) (f:Addr) (fd:FuncData) (ps:List Str) (sp:Sp):Prop where
 len:∀ vs H Q E,sp vs H Q E->vs.length=ps.length
 run:∀ (A:Around) (outer:List Env) (s:Shared) (H:Hp) (args:Args) (us:List Value) (vs:List V) (Q:VK) (E:XK),bE k A->rJ P w K mg base A outer s H->BindsTo s fd args (ps.zip us)->Vals vs us->sp vs H Q E->
  codeAny (model P w) A (.call (.ref f) args) (CR CX outer P w H s Q E) s
variable {mg:LG}{base:Heap}{CX:qT}{fd:FuncData}{ps:List Str}
def cN.imp {K:W.Frag}{f:Addr}{sp sp':Sp}(F:cN P w K mg base CX k f fd ps sp)
  (h:∀ vs H Q E,sp' vs H Q E->sp vs H Q E):cN P w K mg base CX k f fd ps sp':=
 ⟨λvs H Q E q=>F.len vs H Q E (h _ _ _ _ q),λA outer s H args us vs Q E hr he hb hv hs=>F.run A outer s H args us vs Q E hr he hb hv (h _ _ _ _ hs)⟩
variable {outer:List Env}
def rJ.make {K:W.Frag}(e:rJ P w K mg base A outer s H)(C:Addr)(us:List Value)(kw:List (Str×Value)):
  rJ P w K mg base (A.under (.builtin "type.__call__" ⟨.ref C::us,kw⟩)) outer s H:=⟨by first|exact e.frames|(simpa[Around.under,Code.envs,Code.isFrame,pushEnvs] using e.frames),e.mod,e.bs,e.bsz,e.js,e.frf,e.hok,e.bare⟩
section
variable {X:Cx}{Y:LF}{U:St}{H:Hp}{s s':Shared}
def Inv.iy (I:Inv X Y U H s):rJ X.prog X.w X.K X.mg X.base X.A X.stack s H:=
 ⟨I.ok.frames,I.ok.mod,I.bs,Nat.le_trans I.ok.bsz I.sz,I.stack,I.mW,I.hok,I.bare⟩
def Inv.after {Q:VK}(I:Inv X Y U H s)(h:CE X.stack X.prog X.w H s Q u s'):EP X Y U Q u s':=by
 obtain⟨v,H',os,bare,un,hok,r,q⟩:=h;obtain⟨hh,g,d,t,os'⟩:=s';obtain rfl:os'=s.os:=os;exact⟨v,H',I.call (h':=hh) (g':=g) (d':=d) (t':=t) (ch:=[]) un hok bare (λb z=>absurd z (by simp)),r,q⟩
end
abbrev xg (sp:Sp)(dvs:List V)(E:St->XK)(t:TA):TE:=λU H Q=>t U H λvs H1=>sp (vs++dvs) H1 Q (E U)
abbrev De (C:Addr)(sp:Sp)(dvs:List V)(E:St->XK)(t:TA):TE:=λU H Q=>t U H λvs H1=>∀ x dx,H1 x=none->H1 dx=none->dx≠x->
 sp (.ref x::(vs++dvs)) (upd (upd H1 dx (.own x)) x (.ins C dx [])) (λv H2=>v=.non/\Q (.ref x) H2) (E U)
abbrev Binds (K:W.Frag)(fd:FuncData)(ps:List Str)(ds:List Value):Prop:=
 ∀ (s:Shared) (us:List Value),K.In s.heap->(us++ds).length=ps.length->BindsTo s fd ⟨us,[]⟩ (ps.zip (us++ds))
def Binds.all {K:W.Frag}(h:∀ us:List Value,us.length=ps.length->bindArgs fd ⟨us,[]⟩=pure (ps.zip us)):Binds K fd ps []:=λs us _ hl=>by
 rw[append_nil]at hl⊢;exact .of_eq (h us hl)
abbrev Passes (CX:qT)(X:Cx)(E:St->XK):Prop:=∀ (Y:LF) (U:St) (H:Hp) (s:Shared) (e:Value) (s':Shared),Inv X Y U H s->CX X.stack H s (E U) e s'->X.xe e s'
variable {vs:List V}
section
variable {X:Cx}{CX:qT}{k:Nat}{f C:Addr}{fd:FuncData}{ps:List Str}{sp:Sp}{dvs:List V}{ds:List Value}{E:St->XK}{x m:Str}{p pos apos:Pos}{e o:Expr}{es:List Expr}{ta:TE}{t:TA}
def jS {Q:VK}(F:cN X.prog X.w X.K X.mg X.base CX k f fd ps sp)(hr:bE k X.A)(hb:Binds X.K fd ps ds)(hd:Vals dvs ds)(hx:Passes CX X E)
  (I:Inv X Y U H s) (r:Vals vs us) (h:sp (vs++dvs) H Q (E U)):wpAny (model X.prog X.w) X.A (call (.ref f) us) (EP X Y U Q) X.xe s:=by
 have r2:Vals (vs++dvs) (us++ds):=r.append hd;have hl:(us++ds).length=ps.length:=by rw[<-r2.length];exact F.len _ _ _ _ h
 refine wpAny_call (codeAny_mono (F.run X.A X.stack s H ⟨us,[]⟩ (us++ds) (vs++dvs) Q (E U) hr I.iy (hb s us I.bL hl) r2 h) λr s' hq=>?_);cases r with
 |error e=>exact hx Y U H s e s' I hq
 |ok fl=>
  cases fl with
  |ret u=>exact I.after hq
  |next=>exact False.elim hq
  |brk=>exact False.elim hq
  |cont=>exact False.elim hq
def A0 (F:cN X.prog X.w X.K X.mg X.base CX k f fd ps sp)(hr:bE k X.A)(hg:Gl X x)(hm:X.mg x=some (.ref f))(hk:W.keepIn X.K (.ref f)=true)(hb:Binds X.K fd ps ds)(hd:Vals dvs ds)(hx:Passes CX X E)
  (ha:PA X (e::es) t) (hdb:(x ==("__debug__":Str))=false:=by decide) (he:bm (e::es) X.env=(false,eval e X.env)::bm es X.env:=by rfl) (hpl:(backTo pos (bm es X.env)).any (·.1)=false:=by rfl):
  PE X (.Call (.Name x p) (e::es) [] pos) (xg sp dvs E t):=by
 intro Y s U H Q I h;refine bv (bt I hg hm ?_ hdb);refine W.callWith_K (h₀:=X.base) I.ok.mod.kin hk (aA (ha pos Y s U H _ I h) λus s1 ⟨vs,H1,I1,r,q⟩=>⟨I1.bL,?_⟩) he hpl;exact jS F hr hb hd hx I1 r q
def yK (F:cN X.prog X.w X.K X.mg X.base CX k f fd ps sp)(hr:bE k X.A)(hg:Gl X x)(hm:X.mg x=some (.ref f))(hk:W.keepIn X.K (.ref f)=true)(hb:Binds X.K fd ps ds)(hd:Vals dvs ds)(hx:Passes CX X E)
  (hdb:(x ==("__debug__":Str))=false:=by decide):PE X (.Call (.Name x p) [] [] pos) (xg sp dvs E BU):=by
 intro Y s U H Q I h;refine bv (bt I hg hm ?_ hdb);exact W.callWith_K0 I.bL hk (jS (us:=[]) F hr hb hd hx I .nil h)
structure Mk (K:W.Frag) (C f:Addr):Prop where
 makes:W.makesIn K C=true
 init:W.findIn K (.ref C) "__init__"=some (some (.ref f))
 fn:W.isFn K (.ref f)=true
 kp:W.keepIn K (.ref C)=true
def qy {Q:VK}(M:Mk X.K C f)(F:cN X.prog X.w X.K X.mg X.base CX k f fd ps sp)(hr:bE (k+1) X.A)(hb:Binds X.K fd ps ds)(hd:Vals dvs ds)
  (hx:Passes CX X E) (I:Inv X Y U H s) (r:Vals vs us)
  (h:∀ x dx,H x=none->H dx=none->dx≠x->sp (.ref x::(vs++dvs)) (upd (upd H dx (.own x)) x (.ins C dx [])) (λv H2=>v=.non/\Q (.ref x) H2) (E U)):
  wpAny (model X.prog X.w) X.A (call (.ref C) us) (EP X Y U Q) X.xe s:=by
 have hq:=h (s.heap.objs.size+1) s.heap.objs.size (I.hok.fresh (Nat.le_succ _)) (I.hok.fresh (pi _)) (pc (Nat.lt_succ_self _));have I2:=Inv.made (C:=C) I;have r2:Vals (V.ref (s.heap.objs.size+1)::(vs++dvs)) (Value.ref (s.heap.objs.size+1)::(us++ds)):=.cons rfl (r.append hd);have hl:(Value.ref (s.heap.objs.size+1)::us++ds).length=ps.length:=by
  have e:=r2.length;rw[F.len _ _ _ _ hq]at e;exact e.symm
 refine wpAny_call (yx (f:=f) I.bL M.makes M.init (beq_iff_eq.mp M.fn) (codeAny_mono (F.run _ X.stack _ _ ⟨Value.ref (s.heap.objs.size+1)::us,[]⟩ (Value.ref (s.heap.objs.size+1)::(us++ds)) _ _ (E U) (hr.make C us [])
  (I2.iy.make C us []) (hb _ (Value.ref (s.heap.objs.size+1)::us) I2.bL hl) r2 hq) λr s' hq'=>?_))
 cases r with
 |error e=>exact hx Y U _ _ e s' I2 hq'
 |ok fl=>
  cases fl with
  |ret u=>
   obtain⟨v,H',I3,rv,ev,q3⟩:=I2.after hq';subst ev;exact⟨rv,⟨V.ref (s.heap.objs.size+1),H',I3,rfl,q3⟩⟩
  |next=>exact False.elim hq'
  |brk=>exact False.elim hq'
  |cont=>exact False.elim hq'
def Bg (M:Mk X.K C f)(F:cN X.prog X.w X.K X.mg X.base CX k f fd ps sp)(hr:bE (k+1) X.A)(hg:Gl X x)(hm:X.mg x=some (.ref C))(hb:Binds X.K fd ps ds)(hd:Vals dvs ds)(hx:Passes CX X E)
  (ha:PA X (e::es) t) (hdb:(x ==("__debug__":Str))=false:=by decide) (he:bm (e::es) X.env=(false,eval e X.env)::bm es X.env:=by rfl) (hpl:(backTo pos (bm es X.env)).any (·.1)=false:=by rfl):
  PE X (.Call (.Name x p) (e::es) [] pos) (De C sp dvs E t):=by
 intro Y s U H Q I h;refine bv (bt I hg hm ?_ hdb);refine W.callWith_K (h₀:=X.base) I.ok.mod.kin M.kp (aA (ha pos Y s U H _ I h) λus s1 ⟨vs,H1,I1,r,q⟩=>⟨I1.bL,?_⟩) he hpl;exact qy M F hr hb hd hx I1 r q
def x8 (M:Mk X.K C f)(F:cN X.prog X.w X.K X.mg X.base CX k f fd ps sp)(hr:bE (k+1) X.A)(hg:Gl X x)(hm:X.mg x=some (.ref C))(hb:Binds X.K fd ps ds)(hd:Vals dvs ds)(hx:Passes CX X E)
  (hdb:(x ==("__debug__":Str))=false:=by decide):PE X (.Call (.Name x p) [] [] pos) (De C sp dvs E BU):=by
 intro Y s U H Q I h;refine bv (bt I hg hm ?_ hdb);exact W.callWith_K0 I.bL M.kp (qy (us:=[]) M F hr hb hd hx I .nil h)
end
section
variable {X:Cx}{CX:qT}{k:Nat}{f C:Addr}{fd:FuncData}{ps ks:List Str}{sp:Sp}{E:St->XK}{x m:Str}{p pos apos kpos:Pos}{e o:Expr}{es:List Expr}{kws:List Keyword}{te ta:TE}{t tk:TA}{nm:Option Str}
variable {g:List Value->List Value->List Value}{gV:List V->List V->List V}
end
structure jK (N P:List Str) (sc:Scope):Prop where
 kind:sc.kind=.function
 co:sc.isCoroutine=false
 gen:sc.isGenerator=false
 nd:N.Nodup
 pre:N.take P.length=P
 par:∀ x ∈ P,sc.names.lookup x=some .local\/sc.names.lookup x=some .cell
 nofree:∀ y ∈ sc.names,y.2≠.free
def mN {kindOf:Str->Option NameKind}{x:Str}:∀ {binds:List (Str×Value)}{m:LG},(∀ v,(x,v) ∉ binds)->bindL kindOf binds m x=m x
 | [],_,_=>rfl
 |(n,v)::r,m,h=>by
  unfold bindL;rw[mN λw hw=>h w (dl _ hw)]
  split
  .have:x≠n:=by rintro rfl;exact h v lw
   simp[this]
  .rfl
def mq {kindOf:Str->Option NameKind}{x:Str}:∀ {binds:List (Str×Value)}{m:LG},(∀ v,(x,v) ∉ binds)->bindC kindOf binds m x=m x
 | [],_,_=>rfl
 |(n,v)::r,m,h=>by
  unfold bindC;rw[mq λw hw=>h w (dl _ hw)]
  split
  .rfl
  .have:x≠n:=by rintro rfl;exact h v lw
   simp[this]
def lS {kindOf:Str->Option NameKind}{x:Str}{v:Value}:∀ {P:List Str}{vs:List Value}{i:Nat}{m:LG},P.Nodup->P[i]? =some x->vs[i]? =some v->kindOf x=some .local->
  bindL kindOf (P.zip vs) m x=some v
 | [],_,_,_,_,h,_,_=>by simp at h
 |_::_,[],_,_,_,_,h,_=>by simp at h
 |p::P,w::vs,0,m,nd,h1,h2,hk=>by
  simp at h1 h2;subst h1;subst h2;show bindL kindOf ((p,w)::P.zip vs) m p=_;unfold bindL;rw[mN λv hv=>(nodup_cons.mp nd).1 (of_mem_zip hv).1,if_pos hk];simp
 |p::P,w::vs,i+1,m,nd,h1,h2,hk=>by
  show bindL kindOf ((p,w)::P.zip vs) m x=_;unfold bindL;exact lS (i:=i) (nodup_cons.mp nd).2 (by simpa using h1) (by simpa using h2) hk
def mC {kindOf:Str->Option NameKind}{x:Str}{v:Value}:∀ {P:List Str}{vs:List Value}{i:Nat}{m:LG},P.Nodup->P[i]? =some x->vs[i]? =some v->kindOf x≠some .local->
  bindC kindOf (P.zip vs) m x=some v
 | [],_,_,_,_,h,_,_=>by simp at h
 |_::_,[],_,_,_,_,h,_=>by simp at h
 |p::P,w::vs,0,m,nd,h1,h2,hk=>by
  simp at h1 h2;subst h1;subst h2;show bindC kindOf ((p,w)::P.zip vs) m p=_;unfold bindC;rw[mq λv hv=>(nodup_cons.mp nd).1 (of_mem_zip hv).1,if_neg hk];simp
 |p::P,w::vs,i+1,m,nd,h1,h2,hk=>by
  show bindC kindOf ((p,w)::P.zip vs) m x=_;unfold bindC;exact mC (i:=i) (nodup_cons.mp nd).2 (by simpa using h1) (by simpa using h2) hk
abbrev start (N:List Str)(vs:List V):St:=vs.map some++sn (N.length-vs.length) none
abbrev vR (CX:qT)(P:Program)(w:World)(K:W.Frag)(mg:LG)(base:Heap)(N:List Str)(qual:Str)(scope:Scope)(f:Addr)(cd:Value)(A:Around)(outer:List Env)(s:Shared)(H:Hp)(E:XK):Cx where
 prog:=P
 w:=w
 K:=K
 mg:=mg
 base:=base
 A:=A.deeper (envOfC qual scope s.heap.objs.size f cd)
 N:=N
 s₀:=s
 H₀:=H
 env:=envOfC qual scope s.heap.objs.size f cd
 outer:=outer
 stack:=envOfC qual scope s.heap.objs.size f cd::outer
 ex:=[]
 calm:=true
 fn:=λ_=>true
 pn:=[]
 xe:=λe s'=>wpAny (model P w) (A.deeper (envOfC qual scope s.heap.objs.size f cd)) (leaving (envOfC qual scope s.heap.objs.size f cd) e) (λ_ s''=>CX outer H s E e s'') (λe' s''=>CX outer H s E e' s'') s'
def qk {sc:Scope}{n:Nat}(h:sc.names.lookup x=some .cell):∃ c,(cellsFrom n sc.names []).lookup x=some c:=by
 have q:=W.cellsFrom_some sc.names n [] (.inl h);exact Option.isSome_iff_exists.mp q
variable {scope:Scope}
def vo {K:W.Frag}{N:List Str}{qual:Str}{f:Addr}{cd:Value}{s1:Shared}{E:XK}
  (S:jK N ps scope) (hd:A.handled=none) (e0:rJ P w K mg base A outer s H) (hl:vs.length=ps.length) (r:Vals vs us)
  (x:InCallC s s.heap.objs.size (bindL (envOfC qual scope s.heap.objs.size f cd).kindOf (ps.zip us) λ_=>none) (cellsFrom (s.heap.objs.size+1) scope.names []) (bindC (envOfC qual scope s.heap.objs.size f cd).kindOf (ps.zip us) λ_=>none) s1):
  Inv (vR CX P w K mg base N qual scope f cd A outer s H E) [] (start N vs) H s1:=by
 have hpl:ps.length<=N.length:=by have:=congrArg List.length S.pre;rw[db]at this;omega
 obtain⟨h1,tk,rfl,hk⟩:=x.done;have noA:∀ b:Addr,b ∉ (vR CX P w K mg base N qual scope f cd A outer s H E).ex:=λb z=>absurd (show b ∈ ([]:List Addr) from z) (by simp)
 refine⟨⟨e0.mod,S.kind,rfl,rfl,pi _,λy z c h1 h2=>?_,λy hy=>?_,λy c _ h=>?_,λ_=>hd,Around.frames_deeper e0.frames,.inr ⟨rfl,rfl⟩,λb z=>absurd z (noA b),e0.bs,e0.bsz,λb _ _=>noA b,λb z=>absurd z (noA b),e0.js,e0.frf⟩,
  rfl,e0.bare,Un.kept hk,⟨_,x.toInCall.ns,λi y v h1 h2 h3=>?_⟩,λy c h=>⟨_,x.cell y c h⟩,e0.hok.fresh (pi _),λy c h=>?_,λp hp=>absurd (show p ∈ ([]:LF) from hp) (by simp),e0.hok.kept hk,?_⟩
 .exact name_of_addr x.apart (PySem.mem_of_lookup h1) (PySem.mem_of_lookup h2)
 .have hy:scope.names.lookup y=some .cell\/scope.names.lookup y=some .free:=hy;rcases hy with hy|hy
  .exact qk hy
  .exact absurd rfl (S.nofree _ (PySem.mem_of_lookup hy))
 .exact Nat.le_of_lt (x.above y c (PySem.mem_of_lookup h))
 .have hi:i<vs.length:=by
   unfold start at h2
   by_cases hi:i<vs.length
   .exact hi
   .rw[getElem?_append_right (by simpa using hi)]at h2;rw[List.getElem?_replicate]at h2
    split at h2<;>cases h2
  have ha:vs[i]? =some v:=by
   unfold start at h2;rw[getElem?_append_left (by simpa using hi),im]at h2;cases e:vs[i]? with
   |none=>rw[e]at h2;cases h2
   |some a=>rw[e]at h2;cases h2;rfl
  obtain⟨u,hu,rv⟩:=r.get ha;have hp:ps[i]? =some y:=by
   rw[<-S.pre,List.getElem?_take_of_lt nofun];exact h1
  have ndP:ps.Nodup:=by rw[<-S.pre];exact S.nd.sublist (take_sublist _ _)
  refine⟨u,rv,?_⟩;rcases S.par y (cr hp) with k|k
  .exact .inl ⟨k,lS ndP hp hu k⟩
  .obtain⟨c,e⟩:=qk (n:=s.heap.objs.size+1) k;refine .inr ⟨.inl k,c,e,?_⟩;have q:=x.cell y c e;rw[mC ndP hp hu (by show scope.names.lookup y≠_;rw[k];decide)]at q;exact q
 .exact e0.hok.fresh (Nat.le_of_lt (x.above y c (PySem.mem_of_lookup h)))
 .unfold start;show _=N.length;rw[ci,ce,length_replicate]
  omega
def IA {K:W.Frag}{f:Addr}{name qual:Str}{params:Arguments}{dV kV doc pm cdv ct oc:Value}{an od:Option Addr}
  {osl:Array (Option Value)}{N:List Str}{sp:Sp}(lk:K.lookup f=some ⟨oc,od,.func (W.fnOf name qual params body scope dV kV doc pm an cdv ct),osl⟩) (hcd:W.codeIn K cdv qual=true) (S:jK N ps scope)
  (len:∀ vs H Q E,sp vs H Q E->vs.length=ps.length)
  (hbody:∀ (A:Around) (outer:List Env) (s:Shared) (H:Hp) (vs:List V) (Q:VK) (E:XK),bE k (A.deeper (envOfC qual scope s.heap.objs.size f cdv))->sp vs H Q E->
   ∃ t,BY (vR CX P w K mg base N qual scope f cdv A outer s H E) body t/\t { nx:=λ_ H'=>Q .non H',rt:=Q } (start N vs) H):
  cN P w K mg base CX (k+1) f (W.fnOf name qual params body scope dV kV doc pm an cdv ct) ps sp:=by
 refine⟨len,λA outer s H args us vs Q E hr e0 hb r hsp=>?_⟩;have hl:=len _ _ _ _ hsp;have KX:K.In s.heap:=e0.mod.kin.keeps λb o e=>(e0.bs b o e).1
 have lim:s.heap.NoLimit:=e0.mod.nolimit.keeps λb o e=>(e0.bs b o e).1
 have hkind:∀ y ∈ ps.zip us,scope.names.lookup y.1=some .local\/(scope.names.lookup y.1=some .cell/\((cellsFrom (s.heap.objs.size+1) scope.names []).lookup y.1).isSome=true):=λ⟨n,v⟩ hy=>by
  rcases S.par n (of_mem_zip hy).1 with q|q
  .exact .inl q
  .exact .inr ⟨q,W.cellsFrom_some _ _ _ (.inl q)⟩
 refine codeAny_call_function hr.depth (KX _ _ lk) rfl S.co S.gen rfl (W.codeRec_of KX hcd) (hb _ _ _ _ ?_);refine wpAny_newFunctionEnv_cells S.kind hkind λenv he s1 x=>?_
 subst he;refine⟨lim.keeps x.toInCall.keep,codeAny_func ?_⟩;obtain⟨t,ht,hq⟩:=hbody A outer s H vs Q E (hr.deeper _) hsp;have I:Inv (vR CX P w K mg base N qual scope f cdv A outer s H E) [] (start N vs) H s1:=vo S hr.hd e0 hl r x;refine wpAny_mono (ht [] s1 (start N vs) H _ I hq) (λfl s' hs=>?_) λe s' hs=>hs
 have fin:∀ {σ':St}{H':Hp}{v:V}{u:Value},Inv (vR CX P w K mg base N qual scope f cdv A outer s H E) [] σ' H' s'->RelV v u->Q v H'->CE outer P w H s Q u s':=
  λ{σ' H' v u} J rv q=>⟨v,H',J.os,J.bare,J.base,J.hok,rv,q⟩
 cases fl with
 |ret u=>
  obtain⟨v,σ',H',J,rv,q⟩:=hs;exact fin J rv q
 |next=>
  obtain⟨σ',H',J,q⟩:=hs;exact fin (v:=V.non) (u:=Value.none) J rfl q
 |brk=>
  obtain⟨_,_,_,q⟩:=hs;exact False.elim q
 |cont=>
  obtain⟨_,_,_,q⟩:=hs;exact False.elim q
section
variable {X:Cx}{x:Str}{p pos:Pos}{e:Expr}{es:List Expr}{t:TA}{id T:String}{r:List V->Hp->VK->Prop}
abbrev Kw (r:List V->Hp->VK->Prop)(t:TA):TE:=λU H Q=>t U H λvs H1=>r vs H1 Q
def qb (hc:dc X (.builtin id) r)(hg:Gl X x)(hm:X.mg x=none)(hv:bootBuiltins x=some (.builtin id))(ha:PA X (e::es) t)(hn:x≠"__name__":=by decide) (hdb:(x ==("__debug__":Str))=false:=by decide)
  (he:bm (e::es) X.env=(false,eval e X.env)::bm es X.env:=by rfl) (hpl:(backTo pos (bm es X.env)).any (·.1)=false:=by rfl):PE X (.Call (.Name x p) (e::es) [] pos) (Kw r t):=by
 intro Y s U H Q I h;refine bv (cB I hg hm hv ?_ hn hdb);exact PyProof.Rows.callWith_builtin1 (aA (ha pos Y s U H _ I h) λus s1 ⟨vs,H1,I1,r1,q1⟩=>hc Y s1 U H1 vs us Q I1 r1 q1) he hpl
def vL (hc:dc X (.type T) r)(hg:Gl X x)(hm:X.mg x=none)(hv:bootBuiltins x=some (.type T))(ha:PA X (e::es) t)(hn:x≠"__name__":=by decide) (hdb:(x ==("__debug__":Str))=false:=by decide)
  (he:bm (e::es) X.env=(false,eval e X.env)::bm es X.env:=by rfl) (hpl:(backTo pos (bm es X.env)).any (·.1)=false:=by rfl):PE X (.Call (.Name x p) (e::es) [] pos) (Kw r t):=by
 intro Y s U H Q I h;refine bv (cB I hg hm hv ?_ hn hdb);exact PyProof.Rows.callWith_type1 (aA (ha pos Y s U H _ I h) λus s1 ⟨vs,H1,I1,r1,q1⟩=>hc Y s1 U H1 vs us Q I1 r1 q1) he hpl
end
end L2
namespace HT
open PySem PyProof.Rows
section
open PySem.SeqAt
open PySem.AutoSeq1 (wpAny_loadPart')
open PySem.MeetsSeq PySem.MeetsSeq2 PySem.MeetsSeq3
end
section
variable {prog:Program}{w:World}{A:Around}{E:LD}{s:Shared}
abbrev qx (n d:Nat):Option Int->Nat
 |none=>d
 |some v=>if v<0 then(v+(n:Int)).toNat else min v.toNat n
end
end HT
namespace L2
open PySem PySem.Spec PyProof.Rows
@[reducible]def TO:=St->Hp->(Option Int->Hp->Prop)->Prop
abbrev PO (X:Cx)(e:Option Expr)(t:TO):Prop:=
 ∀ (Y:LF) (s:Shared) (U:St) (H:Hp) (Q:Option Int->Hp->Prop),Inv X Y U H s->t U H Q->
  wpAny (model X.prog X.w) X.A (evalPart e X.env) (λu s'=>∃ o H',Inv X Y U H' s'/\IsPart u o/\Q o H') X.xe s
abbrev B0:TO:=λ_ H Q=>Q none H
abbrev Ii (t:TE):TO:=λU H Q=>t U H λx H1=>∃ i,x=.int i/\Q (some i) H1
section
variable {X:Cx}{e:Expr}{te:TE}{lo hi:Option Expr}{tl th:TO}{pos p2:Pos}
def Bs:PO X none B0:=by
 intro Y s U H Q I h;rw[evalPart_none];exact am ⟨none,H,I,.none,h⟩
def Cm (h:PE X e te):PO X (some e) (Ii te):=by
 intro Y s U H Q I hw;rw[evalPart_some];refine aA (h Y s U H _ I hw) λu s1 ⟨x,H1,I1,r1,q1⟩=>?_
 obtain⟨i,rfl,q⟩:=q1;obtain⟨t,rfl⟩:=r1;exact⟨some i,H1,I1,.int i t,q⟩
abbrev IW (X:Cx)(r:V->Option Int->Option Int->Hp->VK->Prop):Prop:=
 ∀ (Y:LF) (s:Shared) (U:St) (H:Hp) (x:V) (v vl vu:Value) (lo hi:Option Int) (sl:Addr) (Q:VK),Inv X Y U H s->RelV x v->s.heap.IsSliceOf sl vl vu .none->IsPart vl lo->IsPart vu hi->r x lo hi H Q->
  ∃ T id,typeLookup (.type T) "__getitem__"=pure (some (.builtin id))/\s.TypeIs v T/\wpAny (model X.prog X.w) X.A (getItem v (.ref sl)) (EP X Y U Q) X.xe s
abbrev Lh (r:V->Option Int->Option Int->Hp->VK->Prop)(te:TE)(tl th:TO):TE:=λU H Q=>te U H λx H1=>tl U H1 λl H2=>th U H2 λu H3=>r x l u H3 Q
def wm {r:V->Option Int->Option Int->Hp->VK->Prop}(hr:IW X r)(he:PE X e te)(hl:PO X lo tl)(hu:PO X hi th):PE X (.Subscript e (.Slice lo hi none p2) pos) (Lh r te tl th):=by
 intro Y s U H Q I h;refine Subscript_ (aA (he Y s U H _ I h) λv s1 ⟨x,H1,I1,r1,q1⟩=>?_);refine wpAny_Slice (aA (hl Y s1 U H1 _ I1 q1) λvl s2 ⟨l,H2,I2,pl,q2⟩=>aA (hu Y s2 U H2 _ I2 q2) λvu s3 ⟨u,H3,I3,pu,q3⟩=>?_);rw[evalPart_none];refine am ?_;have I4:Inv X Y U H3 { s3 with heap:=s3.heap.push { cls:=.type "slice",data:=.fields #[vl,vu,.none] } }:=I3.kept (t':=s3.toks) λb ob q=>sK _ q
 obtain⟨T,id,hT,ht,hg⟩:=hr Y { s3 with heap:=s3.heap.push { cls:=.type "slice",data:=.fields #[vl,vu,.none] } } U H3 x v vl vu l u s3.heap.objs.size Q I4 r1 (Heap.IsSliceOf.new ..) pl pu q3;show wpAny (model X.prog X.w) X.A (subscriptTail e (.Slice lo hi none p2) v (.ref s3.heap.objs.size)) (EP X Y U Q) X.xe { s3 with heap:=s3.heap.push { cls:=.type "slice",data:=.fields #[vl,vu,.none] } };exact tail_any (ops:=[.ref s3.heap.objs.size,v]) ht hT hg (by with_unfolding_all rfl)
abbrev jw (xs:List V)(lo hi:Option Int):List V:=(xs.drop (HT.qx xs.length 0 lo)).take (HT.qx xs.length xs.length hi-HT.qx xs.length 0 lo)
def qj (xs:List V)(lo hi:Option Int):(jw xs lo hi).length<=xs.length:=by
 unfold jw;rw[db,io]
 omega
end
abbrev vA (n:Nat)(i:Int):Option Nat:=if 0<=i then(if i<n then some i.toNat else none) else if -(n:Int)<=i then some (i+n).toNat else none
variable {α:Type}
abbrev kO (xs:List α)(i:Int):Option α:=(vA xs.length i).bind λj=>xs[j]?
variable {n:Nat}
def tN {i:Int}{j:Nat}(h:vA n i=some j):seqIndex? i n=some j/\j<n/\ -(n:Int)<=i/\i<n:=by
 unfold vA at h
 by_cases h0:0<=i
 .rw[if_pos h0]at h
  by_cases h1:i<n
  .rw[if_pos h1]at h;have e:i.toNat=j:=Option.some.inj h;exact⟨by rw[seqIndex_of h0 h1,e],by omega,by omega,h1⟩
  .rw[if_neg h1]at h;cases h
 .rw[if_neg h0]at h
  by_cases h1: -(n:Int)<=i
  .rw[if_pos h1]at h;have e:(i+n).toNat=j:=Option.some.inj h;exact⟨by rw[seqIndex_neg nofun h1,e],by omega,h1,by omega⟩
  .rw[if_neg h1]at h;cases h
def aW {xs:List α}{i:Int}{v:α}(h:kO xs i=some v):∃ j,seqIndex? i xs.length=some j/\xs[j]? =some v/\j<xs.length/\ -(xs.length:Int)<=i/\i<xs.length:=by
 unfold kO at h;cases e:vA xs.length i with
 |none=>rw[e]at h;cases h
 |some j=>
  rw[e]at h;obtain⟨h1,h2,h3,h4⟩:=tN e;exact⟨j,h1,h,h2,h3,h4⟩
def nK {xs:List α}{j:Nat}{v:α}(h:xs[j]? =some v):kO xs (j:Int)=some v:=by
 have hj:j<xs.length:=(sw.mp h).1;have e:vA xs.length (j:Int)=some j:=by
  unfold vA;rw[if_pos nofun,if_pos nofun];simp
 unfold kO;rw[e];exact h
abbrev uB (b:Expr):Prop:=∀ o i,subscripted b false o i=operate [o,i] (getItem o i)
abbrev HX (X:Cx)(r:R2):Prop:=
 ∀ (value slice:Expr) (Y:LF) (s:Shared) (U:St) (H:Hp) (x y:V) (v u:Value) (Q:VK),Inv X Y U H s->RelV x v->RelV y u->r x y H Q->
  subscripted slice false v u=operate [v,u] (getItem v u)->wpAny (model X.prog X.w) X.A (subscriptTail value slice v u) (EP X Y U Q) X.xe s
abbrev GU (X:Cx)(id:String)(r:V->List V->Hp->VK->Prop):Prop:=
 ∀ (Y:LF) (s:Shared) (U:St) (H:Hp) (x:V) (xs:List V) (v:Value) (us:List Value) (Q:VK),Inv X Y U H s->RelV x v->Vals xs us->r x xs H Q->
  wpAny (model X.prog X.w) X.A (call (.builtin id) (v::us)) (EP X Y U Q) X.xe s
variable {Y:LF}{U:St}{H:Hp}{s:Shared}{y:V}{u:Value}
section
variable {X:Cx}{a b:Expr}{ta tb:TE}{pos:Pos}
def IJ {r:R2}(hr:HX X r)(ha:PE X a ta)(hb:PE X b tb)(hs:uB b):PE X (.Subscript a b pos) (IS r ta tb):=by
 intro Y s U H Q I h;exact Subscript_ (Fb ha hb I h λv u s2 x y H2 I2 rx ry q=>hr a b Y s2 U H2 x y v u Q I2 rx ry q (hs _ _))
abbrev Jh (K:W.Frag):R2:=λx y H Q=>∃ p xs i v,x=.ref p/\y=.int i/\bj K H p xs/\kO xs i=some v/\Q v H
abbrev JB (K:W.Frag):R2:=λx y H Q=>∃ p xs i v,x=.ref p/\y=.int i/\bg K H p xs/\kO xs i=some v/\Q v H
def Bc:HX X (Jh X.K):=by
 intro value slice Y s U H x y v u Q I rx ry h hs;obtain⟨p,xs,i,z,rfl,rfl,hq,he,q⟩:=h;cases rx;obtain⟨t,rfl⟩:=ry;obtain⟨its,r,pl,hz⟩:=I.list hq;obtain⟨j,h1,h2,h3,h4,h5⟩:=aW he;obtain⟨w,ew,rw'⟩:=r.get h2;have hl:=r.length;have hn:=il;have fin:EP X Y U Q w s:=⟨z,H,I,rw',q⟩
 by_cases h0:0<=i
 .have hj:i.toNat=j:=by
   rw[seqIndex_of h0 h5]at h1;exact Option.some.inj h1
  exact item_listR pl.isList h0 nofun (by rw[hj];simpa using ew) fin hs
 .have hj:(i+(its.toArray.size:Int)).toNat=j:=by
   rw[seqIndex_neg nofun h4]at h1;rw[ge,<-hl];exact Option.some.inj h1
  exact subscriptTail_builtinR (x:=w) pl.isList.typeIs slot_list_getitem.lookup
   (wpAny_getItem_list_neg (Q:=λr s'=>r=w/\EP X Y U Q r s') pl.isList nofun (by rw[ge]<;>omega) nofun (by rw[hj];simpa using ew) ⟨rfl,fin⟩) hs
def Dj:HX X (JB X.K):=by
 intro value slice Y s U H x y v u Q I rx ry h hs;obtain⟨p,xs,i,z,rfl,rfl,hq,he,q⟩:=h;cases rx;obtain⟨t,rfl⟩:=ry;obtain⟨its,r,pl,hz⟩:=I.tuple hq;obtain⟨j,h1,h2,h3,h4,h5⟩:=aW he;obtain⟨w,ew,rw'⟩:=r.get h2;have hl:=r.length;have hn:=il;have fin:EP X Y U Q w s:=⟨z,H,I,rw',q⟩;exact subscriptTail_builtinR (x:=w) pl.typeIs slot_tuple_getitem.lookup
  (getItem_tuple (j:=j) (Q:=λr s'=>r=w/\EP X Y U Q r s') pl nofun nofun (by rw[ge,<-hl];exact h1) (by simpa using ew) ⟨rfl,fin⟩) hs
def sQ (its:List Value)(n j:Nat)(u:Value):Obj.mapSeq (·.setIfInBounds j u) { cls:=.type "list",data:=.seq its.toArray n }={ cls:=.type "list",data:=.seq (its.set j u).toArray n }:=by
 simp[Obj.mapSeq]
def Inv.lst {Y:LF}{U:St}{H:Hp}{s:Shared}{p:Addr}{xs:List V}(I:Inv X Y U H s)(h:H p=some (.lst xs)):
  ∃ (its:List Value) (n:Nat),Vals xs its/\s.heap.get? p=some { cls:=.type "list",data:=.seq its.toArray n }/\xs.length<=bn:=by
 obtain⟨z,its,n,r,e⟩:=I.hok p _ h;exact⟨its,n,r,e,z⟩
def Inv.DC {p:Addr}{xs ys:List V}{its its':List Value}{n':Nat}{f:Obj->Obj}(I:Inv X Y U H s)(h:H p=some (.lst xs))
  (ho:s.heap.get? p=some { cls:=.type "list",data:=.seq its.toArray n }) (hf:f { cls:=.type "list",data:=.seq its.toArray n }={ cls:=.type "list",data:=.seq its'.toArray n' }) (r:Vals ys its') (hz:ys.length<=bn) (t:Nat):
  Inv X Y U (upd H p (.lst ys)) { s with heap:=s.heap.update p f,toks:=t }:=by
 have e:(s.heap.update p f).get? p=some { cls:=.type "list",data:=.seq its'.toArray n' }:=by
  rw[Heap.get?_update_self f ho (by rw[hf]<;>rfl),hf]
 refine I.write (x:=p) (e:=p) (by rw[h];trivial) (.inl rfl) (λb u hb q=>(Heap.get?_update_other _ _ (Ne.symm hb)).trans q) ⟨_,e⟩ ?_;exact⟨hz,its',n',r,e⟩
abbrev GQ:V->V->V->Hp->(Hp->Prop)->Prop:=λo i v H Q=>∃ p xs k j,o=.ref p/\i=.int k/\H p=some (.lst xs)/\vA xs.length k=some j/\Q (upd H p (.lst (xs.set j v)))
def set_list:Al X GQ:=by
 intro Y s U H o i v ov iv u Q I ro ri rv h;obtain⟨p,xs,k,j,rfl,rfl,hp,hj,q⟩:=h;cases ro;obtain⟨t,rfl⟩:=ri;obtain⟨its,n,r,ho,hz⟩:=I.lst hp;obtain⟨h1,h2,h3,h4⟩:=tN hj;have hl:=r.length;have hn:=il;have I':Inv X Y U (upd H p (.lst (xs.set j v))) { s with heap:=s.heap.update p (Obj.mapSeq (·.setIfInBounds j u)) }:=
  I.DC hp ho (sQ its n j u) (r.set rv j) (by rw[length_set];exact hz) s.toks
 by_cases h0:0<=k
 .have hk:k.toNat=j:=by
   rw[seqIndex_of h0 h4]at h1;exact Option.some.inj h1
  exact W.ki_setAt ho h0 nofun (by rw[ge,<-hl];exact h4) (by rw[hk];exact⟨_,I',q⟩)
 .have hk:(k+(its.toArray.size:Int)).toNat=j:=by
   rw[seqIndex_neg nofun h3]at h1;rw[ge,<-hl];exact Option.some.inj h1
  exact W.ki_setBack ho nofun (by rw[ge,<-hl];exact h3) nofun (by rw[hk];exact⟨_,I',q⟩)
def mQ (lo hi:Option Int)(n:Nat):(sliceBounds lo hi none n).1=((HT.qx n 0 lo:Nat):Int)/\(sliceBounds lo hi none n).2.1=((HT.qx n n hi:Nat):Int)/\(sliceBounds lo hi none n).2.2=1:=by
 refine⟨?_,?_,rfl⟩
 .cases lo with
  |none=>simp[sliceBounds,HT.qx]
  |some i=>
   simp only[sliceBounds,HT.qx,Option.getD_none,show(1:Int)>0 by decide,if_true]
   by_cases h:i<0
   .simp only[h,if_true]<;>omega
   .simp only[h,if_false]<;>omega
 .cases hi with
  |none=>simp[sliceBounds,HT.qx]
  |some i=>
   simp only[sliceBounds,HT.qx,Option.getD_none,show(1:Int)>0 by decide,if_true]
   by_cases h:i<0
   .simp only[h,if_true]<;>omega
   .simp only[h,if_false]<;>omega
def lG (its:List Value)(lo hi:Option Int):slicePick its.toArray lo hi none=((its.drop (HT.qx its.length 0 lo)).take (HT.qx its.length its.length hi-HT.qx its.length 0 lo)).toArray:=by
 obtain⟨h1,h2,h3⟩:=mQ lo hi its.toArray.size;unfold slicePick;rw[h1,h2,h3];simp only[sliceRange_one,pick_run,ge]<;>rfl
abbrev J4 (K:W.Frag):V->Option Int->Option Int->Hp->VK->Prop:=λx lo hi H Q=>∃ a xs,x=.ref a/\bj K H a xs/\∀ p,H p=none->Q (.ref p) (upd H p (.lst (jw xs lo hi)))
def AH:IW X (J4 X.K):=by
 intro Y s U H x v vl vu lo hi sl Q I rx hs pl pu h;obtain⟨a,xs,rfl,hx,q⟩:=h;cases rx;obtain⟨its,r,ht,hz⟩:=I.list hx;have hlen:=r.length;refine⟨"list",_,slot_list_getitem.lookup,ht.isList.typeIs,?_⟩;refine wpAny_getItem_list_slice ht.isList hs pl pu .none (by simp) ?_ (by rw[ge]<;>omega);rw[lG,<-hlen];refine⟨.ref s.heap.objs.size,_,I.laid (t':=s.toks) (o:=.lst (jw xs lo hi)) (λb ob q=>sK _ q) (pi _) ?_,rfl,q _ (I.hok.fresh (pi _))⟩;exact⟨Nat.le_trans (qj xs lo hi) hz,_,0,(r.drop (HT.qx xs.length 0 lo)).take (HT.qx xs.length xs.length hi-HT.qx xs.length 0 lo),ul _ rfl⟩
abbrev aT:V->Bool
 | .non=>true
 | .bl _=>true
 | .int _=>true
 | .str _=>true
 |_=>false
abbrev cH:V->V->Bool
 | .non,.non=>true
 | .bl a,.bl b=>a ==b
 | .bl a,.int b=>(if a then 1 else 0) ==b
 | .int a,.bl b=>a ==(if b then 1 else 0)
 | .int a,.int b=>a ==b
 | .str a,.str b=>a ==b
 |_,_=>false
def zI {A:Around}{x:V}{v:Value}(ry:RelV y u)(rx:RelV x v)(fy:aT y=true)(fx:aT x=true):SeqAt.EqAt A s u v (cH y x):=by
 cases y with
 |non=>
  cases ry;cases x with
  |non=>cases rx;exact SeqAt.EqAt.same _
  |bl b=>cases rx;exact SeqAt.EqAt.none_bool b
  |int b=>obtain⟨t,rfl⟩:=rx;exact SeqAt.EqAt.none_int b t
  |str b=>obtain⟨t,rfl⟩:=rx;exact SeqAt.EqAt.none_str b t
  |_=>exact absurd (show false=true from fx) Bool.false_ne_true
 |bl a=>
  cases ry;cases x with
  |non=>cases rx;exact SeqAt.EqAt.bool_none a
  |bl b=>cases rx;exact SeqAt.EqAt.bool_bool a b
  |int b=>obtain⟨t,rfl⟩:=rx;exact SeqAt.EqAt.bool_int a b t
  |str b=>obtain⟨t,rfl⟩:=rx;exact SeqAt.EqAt.bool_str a b t
  |_=>exact absurd (show false=true from fx) Bool.false_ne_true
 |int a=>
  obtain⟨t',rfl⟩:=ry;cases x with
  |non=>cases rx;exact SeqAt.EqAt.int_none a t'
  |bl b=>cases rx;exact SeqAt.EqAt.int_bool a t' b
  |int b=>obtain⟨t,rfl⟩:=rx;exact SeqAt.EqAt.int_int a t' b t
  |str b=>obtain⟨t,rfl⟩:=rx;exact SeqAt.EqAt.int_str a t' b t
  |_=>exact absurd (show false=true from fx) Bool.false_ne_true
 |str a=>
  obtain⟨t',rfl⟩:=ry;cases x with
  |non=>cases rx;exact SeqAt.EqAt.str_none a t'
  |bl b=>cases rx;exact SeqAt.EqAt.str_bool a t' b
  |int b=>obtain⟨t,rfl⟩:=rx;exact SeqAt.EqAt.str_int a t' b t
  |str b=>obtain⟨t,rfl⟩:=rx;exact SeqAt.EqAt.str_str a t' b t
  |_=>exact absurd (show false=true from fx) Bool.false_ne_true
 |_=>exact absurd (show false=true from fy) Bool.false_ne_true
abbrev AE (x:V)(u:Value):Bool:=match u with
 | .none=>cH .non x
 | .bool b=>cH (.bl b) x
 | .int i _=>cH (.int i) x
 | .str z _=>cH (.str z) x
 |_=>false
def yt {x:V}(r:RelV y u)(f:aT y=true):AE x u=cH y x:=by
 cases y with
 |non=>cases r;rfl
 |bl b=>cases r;rfl
 |int i=>obtain⟨t,rfl⟩:=r;rfl
 |str z=>obtain⟨t,rfl⟩:=r;rfl
 |_=>exact absurd (show false=true from f) Bool.false_ne_true
def mV {x:V}:∀ {xs:List V}{us:List Value},Vals xs us->xs.all aT=true->us.any (AE x)=xs.any λy=>cH y x
 |_,_,.nil,_=>rfl
 |y::xs,u::us,.cons r t,f=>by
  rw[all_cons,nb]at f;rw[any_cons,any_cons,yt r f.1,mV t f.2]
def ke {A:Around}{s:Shared}{x:V}{v:Value}(rx:RelV x v)(fx:aT x=true):∀ {xs:List V}{us:List Value},Vals xs us->xs.all aT=true->∀ u ∈ us,SeqAt.EqAt A s u v (AE x u)
 |_,_,.nil,_=>λu hu=>by cases hu
 |y::xs,u::us,.cons r t,f=>λu' hu=>by
  rw[all_cons,nb]at f;rcases mo.mp hu with rfl|hu
  .rw[yt r f.1];exact zI r rx f.1 fx
  .exact ke rx fx t f.2 u' hu
abbrev F3 (x:V)(xs:List V):Bool:=xs.any λy=>cH y x
abbrev Li (K:W.Frag)(neg:Bool):R2:=λx y H Q=>∃ p xs,y=.ref p/\(bj K H p xs\/bg K H p xs)/\aT x=true/\xs.all aT=true/\Q (.bl (if neg then !F3 x xs else F3 x xs)) H
def uT:cU X (compareOp .In) (Li X.K false):=by
 intro Y s U H x y v u Q I rx ry h;obtain⟨p,xs,rfl,hq,fx,fs,q⟩:=h;cases ry;rcases hq with hq|hq
 .obtain⟨its,r,pl,hz⟩:=I.list hq;refine SeqAt.in_listAt (AE x) pl.isList (λw hw=>ke rx fx r fs w (by simpa using hw)) ⟨.bl _,H,I,rfl,?_⟩;rw[show its.toArray.any (AE x)=its.any (AE x) by simp,mV r fs];exact q
 .obtain⟨its,r,pl,hz⟩:=I.tuple hq;refine SeqAt.in_tupleAt (AE x) pl (λw hw=>ke rx fx r fs w (by simpa using hw)) ⟨.bl _,H,I,rfl,?_⟩;rw[show its.toArray.any (AE x)=its.any (AE x) by simp,mV r fs];exact q
def om:dc X (.type "list") (λxs H Q=>∃ p ys,xs=[.ref p]/\(bj X.K H p ys\/bg X.K H p ys)/\∀ l,H l=none->Q (.ref l) (upd H l (.lst ys))):=by
 intro Y s U H xs us Q I r h;obtain⟨p,ys,rfl,hq,q⟩:=h;obtain⟨u,rfl,rx⟩:=vals1 r;cases rx;have fin:∀ (its:List Value),Vals ys its->ys.length<=bn->∀ (h':Heap) (c':Nat),(∀ b o',s.heap.get? b=some o'->h'.get? b=some o')->
   h'.get? s.heap.objs.size=some { cls:=.type "list",dict:=none,data:=.seq its.toArray c',slots:=#[] }->EP X Y U Q (.ref s.heap.objs.size) { s with heap:=h' }:=λits r' hz h' c' kp e=>
  ⟨.ref s.heap.objs.size,_,I.laid (t':=s.toks) kp (pi _) (show aL X.prog X.w _ h' _ (.lst ys) from⟨hz,its,c',r',e⟩),rfl,q _ (I.hok.fresh (pi _))⟩
 rcases hq with hq|hq
 .obtain⟨its,r',pl,hz⟩:=I.list hq;have hlen:=r'.length;obtain⟨o,ho,hc,n,hd⟩:=pl.isList;exact call_list_seq p (.inl rfl) ho hc hd (λh' c' kp e=>fin its r' hz h' c' kp e) (by simp only[ge]<;>omega)
 .obtain⟨its,r',pl,hz⟩:=I.tuple hq;have hlen:=r'.length;obtain⟨o,ho,hc,n,hd⟩:=pl;exact call_list_seq p (.inr rfl) ho hc hd (λh' c' kp e=>fin its r' hz h' c' kp e) (by simp only[ge]<;>omega)
def lu:dc X (.type "tuple") (λxs H Q=>∃ p ys,xs=[.ref p]/\((bj X.K H p ys/\∀ l,H l=none->Q (.ref l) (upd H l (.tup ys)))\/(bg X.K H p ys/\Q (.ref p) H))):=by
 intro Y s U H xs us Q I r h;obtain⟨p,ys,rfl,h⟩:=h;obtain⟨u,rfl,rx⟩:=vals1 r;cases rx;rcases h with⟨hq,q⟩|⟨hq,q⟩
 .obtain⟨its,r',pl,hz⟩:=I.list hq;have hlen:=r'.length;refine call_tuple_list pl.isList (λh' kp=>?_) (by simp only[ge]<;>omega);have I1:Inv X Y U H { s with heap:=h' }:=I.kept (t':=s.toks) kp;have I2:Inv X Y U (upd H h'.objs.size (.tup ys)) { s with heap:=h'.push { cls:=.type "tuple",data:=.seq its.toArray } }:=
   I1.laid (t':=s.toks) (λb o e=>sK _ e) (pi _) (show aL X.prog X.w _ _ _ (.tup ys) from⟨hz,its,r',IsTup.new _ _⟩)
  exact⟨.ref h'.objs.size,_,I2,rfl,q _ (I1.hok.fresh (pi _))⟩
 .obtain⟨its,r',pl,hz⟩:=I.tuple hq;exact call_tuple_same pl ⟨.ref p,H,I,rfl,q⟩
abbrev Jx (K:W.Frag)(T:String)(x:V)(H:Hp):Prop:=match x with
 | .str _=>T="str"
 | .int _=>T="int"
 | .ref p=>(T="list"/\∃ xs,bj K H p xs)\/(T="tuple"/\∃ o,K.lookup p=some o/\o.cls=.type "tuple"/\o.dict=none)\/
   (T="dict"/\((∃ kvs,H p=some (.dK kvs))\/∃ kvs,H p=some (.dT kvs)))\/(T="set"/\∃ S n,H p=some (.set S n))
 |_=>False
def rE {T:String}{x:V}{v:Value}(I:Inv X Y U H s)(r:RelV x v)(ty:Jx X.K T x H):
  s.TypeIs v T/\∀ a,v=.ref a->∃ ob,s.heap.get? a=some ob/\ob.dict=none:=by
 cases x with
 |str z=>
  obtain⟨t,rfl⟩:=r;cases(show T="str" from ty);exact⟨typeIs_str s z t,λ_ e=>nomatch e⟩
 |int i=>
  obtain⟨t,rfl⟩:=r;cases(show T="int" from ty);exact⟨typeIs_int s i t,λ_ e=>nomatch e⟩
 |ref p=>
  cases r;rcases ty with⟨rfl,xs,hq⟩|⟨rfl,o,hk,hc,hd⟩|⟨rfl,hk⟩|⟨rfl,S,n,hk⟩
  .obtain⟨its,_,pl,_⟩:=I.list hq;refine⟨pl.isList.typeIs,λa e=>?_⟩;cases e;obtain⟨o,n,e,c,hd,_⟩:=pl;exact⟨o,e,hd⟩
  .refine⟨⟨o,I.bL p o hk,hc⟩,λa e=>?_⟩;cases e;exact⟨o,I.bL _ o hk,hd⟩
  .have z:∃ o,s.heap.get? p=some o/\o.ExactDict:=by
    rcases hk with⟨kvs,hk⟩|⟨kvs,hk⟩
    .obtain⟨_,_,_,_,o,_,_,e,ex,_⟩:=I.hok p _ hk;exact⟨o,e,ex⟩
    .obtain⟨_,_,_,_,o,_,_,e,ex,_⟩:=I.hok p _ hk;exact⟨o,e,ex⟩
   obtain⟨o,e,ex⟩:=z;refine⟨⟨o,e,ex.1⟩,λa e2=>?_⟩;cases e2;exact⟨o,e,ex.2.1⟩
  .obtain⟨o,_,_,_,e,ex,_⟩:=I.hok p _ hk;refine⟨⟨o,e,ex.1⟩,λa e2=>?_⟩;cases e2;exact⟨o,e,ex.2.1⟩
 |_=>exact False.elim ty
abbrev JW (K:W.Frag)(T:String)(r:V->List V->Hp->VK->Prop)(to:TE):TE:=λU H Q=>to U H λx H1=>Jx K T x H1/\r x [] H1 Q
abbrev Ln (K:W.Frag)(T:String)(r:V->List V->Hp->VK->Prop)(to:TE)(t:TA):TE:=λU H Q=>to U H λx H1=>Jx K T x H1/\t U H1 λxs H2=>r x xs H2 Q
variable {o e:Expr}{es:List Expr}{to:TE}{t:TA}{name:Str}{apos cpos:Pos}{T id:String}{r:V->List V->Hp->VK->Prop}
def D8 (pa:PlainAttrs T)(slot:Slot T name id)(hty:typeOf (.builtin id)=pure (.type "method_descriptor")) (hm:GU X id r) (ho:PE X o to)
  (hbase:attributeBase o name X.env (eval o X.env)=eval o X.env:=by rfl) (hline:(apos.endLine ==cpos.line)=true:=by rfl):PE X (.Call (.Attribute o name apos) [] [] cpos) (JW X.K T r to):=by
 intro Y s U H Q I h;refine wpAny_Call_method0_late hbase hline (aA (ho Y s U H _ I h) λv s1 ⟨x,H1,I1,r1,ty,q1⟩=>?_);obtain⟨h1,h2⟩:=rE I1 r1 ty;exact⟨T,id,pa,slot,hty,h1,h2,Calls.callWith_builtin rfl (PySem.evalArgs_none (hm Y s1 U H1 x [] v [] Q I1 r1 .nil q1))⟩
def Cs (pa:PlainAttrs T)(slot:Slot T name id)(hty:typeOf (.builtin id)=pure (.type "method_descriptor")) (hm:GU X id r) (ho:PE X o to) (ha:PA X (e::es) t)
  (hbase:attributeBase o name X.env (eval o X.env)=eval o X.env:=by rfl)
  (hfew:((backTo cpos (bm (e::es) X.env)).all (λx=>!x.1)&&(backToKw cpos (keywordEach [] X.env)).all (λx=>x.1.isSome)
   &&decide ((e::es).length+([]:List Keyword).length+(if([]:List Keyword).isEmpty then 0 else 1)<30))=true:=by rfl)
  (hline:(apos.endLine ==cpos.line)=true:=by rfl) (hs:bm (e::es) X.env=(false,eval e X.env)::bm es X.env:=by rfl) (hplain:(backTo cpos (bm es X.env)).any (·.1)=false:=by rfl):
  PE X (.Call (.Attribute o name apos) (e::es) [] cpos) (Ln X.K T r to t):=by
 intro Y s U H Q I h;refine wpAny_Call_method_late hbase hfew hline rfl (aA (ho Y s U H _ I h) λv s1 ⟨x,H1,I1,r1,ty,q1⟩=>?_);obtain⟨h1,h2⟩:=rE I1 r1 ty;refine⟨T,id,pa,slot,hty,h1,h2,?_⟩;have hA:=ha cpos Y s1 U H1 _ I1 q1;rw[hs]at hA⊢;refine Calls.callWith_builtin (by show(false||(backTo cpos (bm es X.env)).any (·.1))=false;rw[hplain]<;>rfl) (Calls.evalArgs_plain ?_);exact aA hA λus s2 ⟨vs,H2,I2,r2,q2⟩=>hm Y s2 U H2 x vs v us Q I2 r1 r2 q2
/- xs.append(e),list.index on a module's tuple .. are GU facts of 06m -/
end
abbrev KW (X:Cx)(id:String)(r:V->List V->Hp->VK->Prop):Prop:=
 ∀ (Y:LF) (s:Shared) (U:St) (H:Hp) (x:V) (xs:List V) (v:Value) (us:List Value) (Q:VK),Inv X Y U H s->RelV x v->Vals xs us->r x xs H Q->
  wpAny (model X.prog X.w) X.A (call (.builtin id) (v::us)) (EP X Y U Q) X.xe s
def Vals.one:∀ {x:V}{us:List Value},Vals [x] us->∃ u,us=[u]/\RelV x u
 |_,_,.cons r .nil=>⟨_,rfl,r⟩
def Vals.zero:∀ {us:List Value},Vals [] us->us=[]
 |_,.nil=>rfl
def Vals.eraseIdx:∀ {xs:List V}{us:List Value}(i:Nat),Vals xs us->Vals (xs.eraseIdx i) (us.eraseIdx i)
 |_,_,_,.nil=>.nil
 |_,_,0,.cons _ t=>t
 |_,_,i+1,.cons r t=>.cons r (Vals.eraseIdx i t)
variable {us:List Value}
def Vals.reverse {xs:List V}(h:Vals xs us):Vals xs.reverse us.reverse:=by
 induction h with
 |nil=>exact .nil
 |cons r t ih=>rw[List.reverse_cons,List.reverse_cons];exact Vals.append ih (.cons r .nil)
def Vals.rep {xs:List V}(h:Vals xs us):∀ k:Nat,Vals (sn k xs).flatten (sn k us).flatten
 |0=>.nil
 |k+1=>by
  rw[replicate_succ,replicate_succ,flatten_cons,flatten_cons];exact Vals.append h (Vals.rep h k)
def foldl_rep (its:List Value):∀ (k:Nat) (acc:List Value),
  List.foldl (λx1 x2=>x1++x2) acc.toArray (sn k its.toArray)=(acc++(sn k its).flatten).toArray
 |0,acc=>by simp
 |k+1,acc=>by
  have e:acc.toArray++its.toArray=(acc++its).toArray:=by simp
  have e2:(acc++its)++(sn k its).flatten=acc++(sn (k+1) its).flatten:=by
   rw[replicate_succ,flatten_cons,jp]
  rw[<-e2,<-foldl_rep its k (acc++its),<-e,replicate_succ,foldl_cons]
section
variable {X:Cx}{Y:LF}{U:St}{H:Hp}{s:Shared}{l b:Addr}{xs ys zs:List V}
def Inv.Hv {its its':List Value}{f:Array Value->Array Value}{t':Nat}(I:Inv X Y U H s)(hH:H l=some (.lst xs))
  (e:s.heap.get? l=some { cls:=.type "list",data:=.seq its.toArray n }) (hf:f its.toArray=its'.toArray) (hv:Vals ys its') (hz:ys.length<=bn):
  Inv X Y U (upd H l (.lst ys)) { s with heap:=s.heap.update l (Obj.mapSeq f),toks:=t' }:=by
 have q:=PySem.IsL.update e f;rw[hf]at q;refine I.write (x:=l) (e:=l) (by rw[hH];exact trivial) (.inl rfl) (λb' u hb hu=>(Heap.get?_update_other s.heap (Obj.mapSeq f) (Ne.symm hb)).trans hu) ⟨_,q⟩ ?_;exact⟨hz,its',_,hv,q⟩
def Inv.Ht {its:List Value}{t':Nat}(I:Inv X Y U H s)(hv:Vals ys its)(hz:ys.length<=bn):
  Inv X Y U (upd H s.heap.objs.size (.lst ys)) { s with heap:=s.heap.push { cls:=.type "list",data:=.seq its.toArray },toks:=t' }:=
 I.laid (λ_ _ q=>sK _ q) (pi _) ⟨hz,its,0,hv,ul _ rfl⟩
def Inv.fresh (I:Inv X Y U H s):H s.heap.objs.size=none:=I.hok.fresh (pi _)
def Inv.oZ (I:Inv X Y U H s)(hH:H l=some (.lst xs)):xs.length<=bn/\∃ (its:List Value) (n:Nat),Vals xs its/\xs.length=its.length/\s.heap.get? l=some { cls:=.type "list",data:=.seq its.toArray n }:=by
 obtain⟨z,its,n,r,e⟩:=I.hok l _ hH;exact⟨z,its,n,r,r.length,e⟩
def qh (h:n<=bn):Builtin.List.listTooLong n=false:=by
 unfold Builtin.List.listTooLong;exact decide_eq_false nofun
end
section
variable {X:Cx}
abbrev AI:V->List V->Hp->VK->Prop:=λx vs H Q=>∃ l xs y,x=.ref l/\vs=[y]/\H l=some (.lst xs)/\xs.length<bn/\Q .non (upd H l (.lst (xs++[y])))
def hE:KW X "list.append" AI:=by
 intro Y s U H x vs v us Q I rx rv h;obtain⟨l,xs,y,rfl,rfl,hH,hz,q⟩:=h;cases rx;obtain⟨u,rfl,ru⟩:=rv.one;obtain⟨z,its,n,r,hl,e⟩:=I.oZ hH;refine call_meets F.slot_list_append ⟨_,e,rfl⟩ F.entry_list_append (F.args_list_append_2 _ _) (PySem.list_append l its.toArray n u (by rw[ge];omega)) ⟨e,?_⟩;refine⟨.non,_,I.Hv (its':=its++[u]) hH e (by simp) (r.append (.cons ru .nil)) ?_,rfl,q⟩;rw[ci,f8]
 omega
abbrev BN:V->List V->Hp->VK->Prop:=λx vs H Q=>∃ l b xs zs,x=.ref l/\vs=[.ref b]/\H l=some (.lst xs)/\H b=some (.lst zs)/\xs.length+zs.length<=bn/\Q .non (upd H l (.lst (xs++zs)))
def vM:KW X "list.extend" BN:=by
 intro Y s U H x vs v us Q I rx rv h;obtain⟨l,b,xs,zs,rfl,rfl,hH,hB,hz,q⟩:=h;cases rx;obtain⟨u,rfl,ru⟩:=rv.one;cases ru;obtain⟨z,its,n,r,hl,e⟩:=I.oZ hH;obtain⟨z2,jx,n2,r2,hl2,e2⟩:=I.oZ hB;have hsz:its.toArray.size+jx.toArray.size<=bn:=by rw[ge,ge];omega
 have hlong:¬ (!its.toArray.isEmpty&&Builtin.List.listTooLong (its.toArray.size+jx.toArray.size))=true:=by
  rw[qh hsz,Bool.and_false];exact Bool.false_ne_true
 refine call_meets F.slot_list_extend ⟨_,e,rfl⟩ F.entry_list_extend (F.args_list_extend_2 _ _)
  (AutoSeq1.list_extend_list_list_0 l its.toArray n b jx.toArray n2 hlong (by rw[ge];omega) nofun) ⟨e,e2,?_⟩
 refine⟨.non,_,I.Hv (its':=its++jx) hH e (by simp) (r.append r2) ?_,rfl,q⟩;rw[ci]
 omega
abbrev J9:R2:=λx y H Q=>∃ l b xs zs,x=.ref l/\y=.ref b/\H l=some (.lst xs)/\H b=some (.lst zs)/\xs.length+zs.length<=bn/\∀ p,H p=none->Q (.ref p) (upd H p (.lst (xs++zs)))
def DQ:cU X (binaryOp .Add) J9:=by
 intro Y s U H x y v u Q I rx ry h;obtain⟨l,b,xs,zs,rfl,rfl,hH,hB,hz,q⟩:=h;cases rx;cases ry;obtain⟨z,its,n,r,hl,e⟩:=I.oZ hH;obtain⟨z2,jx,n2,r2,hl2,e2⟩:=I.oZ hB;refine PySem.P.add_list e e2 ?_ (by rw[ge,ge];omega);have ea:its.toArray++jx.toArray=(its++jx).toArray:=by simp
 rw[ea];exact⟨.ref _,_,I.Ht (t':=s.toks) (r.append r2) (by rw[ci];omega),rfl,q _ I.fresh⟩
abbrev Jt:R2:=λx y H Q=>∃ l k xs,x=.ref l/\y=.int k/\H l=some (.lst xs)/\ -(2 ^ 63)<=k/\k<2 ^ 63/\xs.length*k.toNat<=bn/\
 ∀ p,H p=none->Q (.ref p) (upd H p (.lst (sn k.toNat xs).flatten))
def len_rep (xs:List α)(k:Nat):(sn k xs).flatten.length=k*xs.length:=by
 induction k with
 |zero=>simp
 |succ k ih=>rw[replicate_succ,flatten_cons,ci,ih,Nat.succ_mul,Nat.add_comm]
def Dh:cU X (binaryOp .Mult) Jt:=by
 intro Y s U H x y v u Q I rx ry h;obtain⟨l,k,xs,rfl,rfl,hH,h1,h2,hz,q⟩:=h;cases rx;obtain⟨t,rfl⟩:=ry;obtain⟨z,its,n,r,hl,e⟩:=I.oZ hH;have hlen:its.toArray.size*k.toNat<=bn:=by rw[ge,<-hl];exact hz
 have hcap:¬ its.toArray.size*k.toNat>(2 ^ 63-1) / 8:=by
  have:(bn:Nat)<=(2 ^ 63-1) / 8:=by decide
  omega
 have hfit:¬ (!Builtin.List.listFitsIndex k)=true:=by
  rw[fitsIndex_both h1 h2];exact Bool.false_ne_true
 have hlong:¬ Builtin.List.listTooLong (its.toArray.size*k.toNat)=true:=by
  rw[qh hlen];exact Bool.false_ne_true
 have hnew:List.foldl (λx1 x2=>x1++x2) #[] (sn (if its.toArray.isEmpty=true then 0 else k.toNat) its.toArray)=(sn k.toNat its).flatten.toArray:=by
  have f0:∀ m:Nat,List.foldl (λx1 x2=>x1++x2) #[] (sn m its.toArray)=(sn m its).flatten.toArray:=λm=>by
   have:=foldl_rep its m [];rw[nil_append]at this;exact this
  rw[f0];cases its with
  |nil=>simp
  |cons a r'=>rw[if_neg (by simp)]
 refine wpAny_binaryOp_repeat_ref (T:="list") (U:="int") (by decide) ⟨_,e,rfl⟩ (λs'=>typeIs_int s' k t) noFill_list_mul F.fills_int_mul F.slot_int_rmul repeat_list F.slot_int_index.lookup
  (call_meets F.slot_int_rmul (typeIs_int s k t) F.entry_int_rmul (F.args_int_rmul_2 _ _) (int___rmul___int_list k t l its.toArray n)
   ⟨e,rfl,⟨_,e,rfl⟩,call_meets F.slot_list_mul ⟨_,e,rfl⟩ F.entry_list_mul (F.args_list_mul_2 _ _) (AutoListH.list___mul___list_int_3 l its.toArray n k t hfit hcap hlong) ⟨e,?_⟩⟩)
 rw[hnew];exact⟨.ref _,_,I.Ht (t':=s.toks) (r.rep k.toNat) (by rw[len_rep,Nat.mul_comm];exact hz),rfl,q _ I.fresh⟩
end
section
variable {prog:Program}{w:World}{A:Around}{E:LD}{s:Shared}
set_option maxRecDepth 100000 in
end
section
variable {X:Cx}
end
variable {o:Option V}
section
variable {κ:Type} [DecidableEq κ]
abbrev fm (kvs:List (κ×V))(k:κ):Option V:=(kvs.find? λkv=>decide (kv.1=k)).map (·.2)
abbrev putK (kvs:List (κ×V))(k:κ)(v:V):List (κ×V):=
 if(kvs.any λkv=>decide (kv.1=k))=true then kvs.map (λkv=>if kv.1=k then(kv.1,v) else kv) else kvs++[(k,v)]
def jU {p:κ×V}{r:List (κ×V)}{k:κ}(e:p.1=k):fm (p::r) k=some p.2:=by simp[fm,find?_cons,e]
def kA {p:κ×V}{r:List (κ×V)}{k:κ}(e:¬ p.1=k):fm (p::r) k=fm r k:=by simp[fm,find?_cons,e]
def qt (k:κ):∀ kvs:List (κ×V),(kvs.any λkv=>decide (kv.1=k))=(fm kvs k).isSome
 | []=>rfl
 |p::r=>by
  rw[any_cons]
  by_cases e:p.1=k
  .simp only[jU e,decide_eq_true e,Bool.true_or,Option.isSome_some]
  .rw[kA e,decide_eq_false e,Bool.false_or];exact qt k r
def d9 (kvs:List (κ×V))(k:κ)(v:V):(putK kvs k v).length<=kvs.length+1:=by
 unfold putK
 split
 .rw[ce];omega
 .rw[ci,length_cons,length_nil];omega
def cL.uJ {u:Option Value}(r:cL o u):o.isSome=u.isSome:=by
 cases o with
 |none=>cases u with
  |none=>rfl
  |some _=>exact(show False from r).elim
 |some _=>cases u with
  |none=>exact(show False from r).elim
  |some _=>rfl
def KV.val {kvs:List (κ×V)}{vs:List (κ×Value)}(r:KV kvs vs)(k:κ):cL (fm kvs k) (valueAt vs k):=by
 unfold KV at r
 induction r with
 |nil=>exact True.intro
 | @cons p q ps qs h t ih=>
  obtain⟨h1,h2⟩:=h
  by_cases e:p.1=k
  .have e':q.1=k:=h1.symm.trans e;have b:valueAt (q::qs) k=some q.2:=by simp[valueAt,find?_cons,e']
   rw[jU e,b];exact h2
  .have e':¬ q.1=k:=λz=>e (h1.trans z)
   have b:valueAt (q::qs) k=valueAt qs k:=by simp[valueAt,find?_cons,e']
   rw[kA e,b];exact ih
def KV.any {kvs:List (κ×V)}{vs:List (κ×Value)}(r:KV kvs vs)(k:κ):(kvs.any λkv=>decide (kv.1=k))=vs.any λkv=>decide (kv.1=k):=by
 unfold KV at r
 induction r with
 |nil=>rfl
 |cons h t ih=>rw[any_cons,any_cons,ih,h.1]
def KV.Fj {kvs:List (κ×V)}{vs:List (κ×Value)}(r:KV kvs vs)(k:κ)(ry:RelV y u):
  KV (kvs.map λkv=>if kv.1=k then(kv.1,y) else kv) (vs.map λkv=>if kv.1=k then(kv.1,u) else kv):=by
 unfold KV at r⊢
 induction r with
 |nil=>exact .nil
 | @cons p q ps qs h t ih=>
  rw[map_cons,map_cons];refine .cons ?_ ih;obtain⟨h1,h2⟩:=h
  by_cases e:p.1=k
  .rw[if_pos e,if_pos (h1.symm.trans e)];exact⟨h1,ry⟩
  .rw[if_neg e,if_neg (λz=>e (h1.trans z))];exact⟨h1,h2⟩
def KV.put {kvs:List (κ×V)}{vs:List (κ×Value)}(r:KV kvs vs)(k:κ)(ry:RelV y u):KV (putK kvs k y) (stored vs k u):=by
 unfold putK stored;rw[r.any k]
 by_cases e:(vs.any λkv=>decide (kv.1=k))=true
 .rw[if_pos e,if_pos e];exact r.Fj k ry
 .rw[if_neg e,if_neg e];exact Paired.snoc r ⟨rfl,ry⟩
def KV.length {kvs:List (κ×V)}{vs:List (κ×Value)}(r:KV kvs vs):kvs.length=vs.length:=Paired.length r
end
variable {P:Program}{w:World}
def mf {k:Key}(r:RelV (kV k) u):(av P w).is k u=true:=by
 cases k with
 |inl i=>obtain⟨t,e⟩:=(show ∃ t,u=Value.int i t from r);subst e;exact pG P w i t
 |inr x=>obtain⟨t,e⟩:=(show ∃ t,u=Value.str x t from r);subst e;exact pF P w x t
def lU {P:Program}{w:World}:∀ {ks:List Key}{us:List Value},Vals (ks.map kV) us->ItemsAre (av P w) ks us
 | [],_,r=>by rw[List.map_nil]at r;cases r;exact .nil
 |k::ks,_,r=>by
  rw[map_cons]at r;cases r with
  |cons h t=>exact .cons (mf h) (lU t)
@[reducible]def KT (H:Hp):List (List Key×V)->List (List Key×Addr×Value)->Prop:=Paired λp q=>p.1=q.1/\H q.2.1=some (.tup (p.1.map kV))/\RelV p.2 q.2.2
variable {xs:List (List Key×Addr×Value)}{kvs:List (List Key×V)}
def KT.val (r:KT H kvs xs)(k:List Key):cL (fm kvs k) ((atKey xs k).map (·.2)):=by
 induction r with
 |nil=>exact True.intro
 | @cons p q ps qs h t ih=>
  obtain⟨h1,_,h2⟩:=h
  by_cases e:p.1=k
  .have e':q.1=k:=h1.symm.trans e;have b:atKey (q::qs) k=some q.2:=by simp[atKey,find?_cons,e']
   rw[jU e,b];exact h2
  .have e':¬ q.1=k:=λz=>e (h1.trans z)
   have b:atKey (q::qs) k=atKey qs k:=by simp[atKey,find?_cons,e']
   rw[kA e,b];exact ih
def KT.Fj (r:KT H kvs xs)(k:List Key)(ry:RelV y u):
  KT H (kvs.map λkv=>if kv.1=k then(kv.1,y) else kv) (xs.map (putAt k u)):=by
 induction r with
 |nil=>exact .nil
 | @cons p q ps qs h t ih=>
  rw[map_cons,map_cons];refine .cons ?_ ih;obtain⟨h1,h2,h3⟩:=h;unfold putAt
  by_cases e:p.1=k
  .rw[if_pos e,if_pos (h1.symm.trans e)];exact⟨h1,h2,ry⟩
  .rw[if_neg e,if_neg (λz=>e (h1.trans z))];exact⟨h1,h2,h3⟩
def KT.put (r:KT H kvs xs)(k:List Key){b:Addr}(hb:H b=some (.tup (k.map kV)))(ry:RelV y u):
  KT H (putK kvs k y) (storedH xs k b u):=by
 have e:(kvs.any λkv=>decide (kv.1=k))=(atKey xs k).isSome:=by
  rw[qt,(r.val k).uJ,Option.isSome_map]
 unfold putK storedH;rw[e]
 by_cases q:(atKey xs k).isSome=true
 .rw[if_pos q,if_pos q];exact r.Fj k ry
 .rw[if_neg q,if_neg q];exact Paired.snoc r ⟨rfl,hb,ry⟩
variable {H':Hp}
def KT.keeps (r:KT H kvs xs)(ht:∀ b ys,H b=some (.tup ys)->H' b=some (.tup ys)):KT H' kvs xs:=
 Paired.Ds r λ_ _ z=>⟨z.1,ht _ _ z.2.1,z.2.2⟩
section
variable {P:Program}{w:World}{H:Hp}{h:Heap}{a:Addr}
def C1 {u:HO}(ok:fR P w H h)(e:Rd H a u):aL P w H h a u:=e.ok ok
def iT {kvs:List (Key×V)}(ok:fR P w H h)(e:Rd H a (.dK kvs)):kvs.length<=bn/\(a ==sysModules)=false/\∃ vs,KV kvs vs/\h.DictOf (av P w) a vs:=
 show aL P w H h a (.dK kvs) from C1 ok e
def uI {kvs:List (Key×V)}(ok:fR P w H h)(e:H a=some (.dK kvs)):kvs.length<=bn/\(a ==sysModules)=false/\∃ vs,KV kvs vs/\h.DictOf (av P w) a vs:=iT ok (.inl e)
def qY {ks:List Key}(ok:fR P w H h)(e:H a=some (.tup (ks.map kV))):(tupleKind (av P w)).is h ks a:=by
 obtain⟨_,its,r,o,h1,h2,n,h3⟩:=(show aL P w H h a (.tup (ks.map kV)) from ok a _ e);exact⟨o,its.toArray,n,h1,h2,h3,by simpa using lU r⟩
def yB (ok:fR P w H h)(e:Rd H a (.dT kvs)):kvs.length<=bn/\(a ==sysModules)=false/\
  ∃ xs,KT H kvs xs/\h.DictOfH (tupleKind (av P w)) a xs:=by
 obtain⟨z,y,xs,r,o,es,ep,h1,h2,h3,h4,h5⟩:=(show aL P w H h a (.dT kvs) from C1 ok e);refine⟨z,y,xs,r,o,es,ep,h1,h2,h3,h4,λx hx=>?_,h5⟩;have all:∀ {l:List (List Key×V)}{m:List (List Key×Addr×Value)},KT H l m->∀ x ∈ m,(tupleKind (av P w)).is h x.1 x.2.1:=by
  intro l m q
  induction q with
  |nil=>intro x hx;exact nomatch hx
  | @cons p q ps qs hq t ih=>
   intro x hx;rcases mo.mp hx with e|hx
   .subst e;exact qY ok (by rw[<-hq.1];exact hq.2.1)
   .exact ih x hx
 exact all r x hx
def HP (ok:fR P w H h)(e:H a=some (.dT kvs)):kvs.length<=bn/\(a ==sysModules)=false/\
  ∃ xs,KT H kvs xs/\h.DictOfH (tupleKind (av P w)) a xs:=yB ok (.inl e)
end
abbrev Fl (H:Hp)(a:Addr)(y:V)(r:Option V):Prop:=
 (∃ kvs k,Rd H a (.dK kvs)/\y=kV k/\r=fm kvs k)\/∃ kvs k b,Rd H a (.dT kvs)/\y=.ref b/\H b=some (.tup (k.map kV))/\r=fm kvs k
abbrev Ih (H:Hp)(a:Addr)(y v:V)(H':Hp):Prop:=
 (∃ kvs k,H a=some (.dK kvs)/\y=kV k/\kvs.length<bn/\H'=upd H a (.dK (putK kvs k v)))\/
 ∃ kvs k b,H a=some (.dT kvs)/\y=.ref b/\H b=some (.tup (k.map kV))/\kvs.length<bn/\H'=upd H a (.dT (putK kvs k v))
section
variable {X:Cx}{Y:LF}{U:St}{H:Hp}{s:Shared}{a:Addr}{y v:V}{u r:Value}{o:Option V}{A:Around}{E:LD}
def Inv.big (I:Inv X Y U H s):sysModules<s.heap.objs.size:=by
 have h:mainGlobals<s.heap.objs.size:=(I.mod.glob.keeps I.bk).lt;exact Nat.lt_trans (by decide) h
def vZ {Q:LD}(hu:A.units+1<cLine)(I:Inv X Y U H s)(g:Fl H a y (some v))(ry:RelV y u)(h:∀ w' s',Inv X Y U H s'->RelV v w'->Q w' s'):
  wpAny (model X.prog X.w) A (getItem (.ref a) u) Q E s:=by
 rcases g with⟨kvs,k,e,ey,l⟩|⟨kvs,k,b,e,ey,eb,l⟩
 .subst ey;obtain⟨z,hd,vs,rel,dd⟩:=iT I.hok e;obtain⟨w',hw,rw'⟩:=cL.some_of (v:=v) (o:=valueAt vs k) (by rw[l];exact rel.val k);exact wpAny_getItem_of (mf ry) dd.mapOf hw (h w' _ (I.tok _) rw')
 .subst ey;cases(show u=Value.ref b from ry);obtain⟨z,hd,xs,rel,dd⟩:=yB I.hok e;obtain⟨w',hw,rw'⟩:=cL.some_of (v:=v) (o:=(atKey xs k).map (·.2)) (by rw[l];exact rel.val k);obtain⟨p,hp,hp2⟩:=nl.mp hw;refine wpAny_getItem_heap (tupleKind_room_in1 hu) (qY I.hok eb) dd hp ?_;rw[hp2];exact h w' _ (I.tok _) rw'
def nV {h':Heap}{t':Nat}{ob:HO}(I:Inv X Y U H s)(mu:GO (H a))(hs:Heap.SameBut a s.heap h')(he:∃ q,h'.get? a=some q) (new:aL X.prog X.w (upd H a ob) h' a ob):
  Inv X Y U (upd H a ob) { s with heap:=h',toks:=t' }:=
 I.write (x:=a) (e:=a) mu (.inl rfl) (λb q hb z=>(hs.2 b hb).trans z) he new
def rp {h':Heap}{kvs:List (Key×V)}{vs:List (Key×Value)}(z:kvs.length<=bn)(hd:(a ==sysModules)=false)(rel:KV kvs vs)(dd:h'.DictOf (av P w) a vs):
  aL P w H' h' a (.dK kvs):=⟨z,hd,vs,rel,dd⟩
def vW {Q:LB}(hu:A.units+1<cLine)(I:Inv X Y U H s)(g:Ih H a y v H')(ry:RelV y u)(rv:RelV v r)(h:∀ s',Inv X Y U H' s'->Q () s'):
  wpAny (model X.prog X.w) A (setItem (.ref a) u r) Q E s:=by
 rcases g with⟨kvs,k,e,ey,l,eH⟩|⟨kvs,k,b,e,ey,eb,l,eH⟩
 .subst ey eH;obtain⟨z,hd,vs,rel,dd⟩:=uI I.hok e;have hz:vs.length<=bn:=by rw[<-rel.length];exact z
  have hl:(putK kvs k v).length<=bn:=by have:=d9 kvs k v;omega
  refine wpAny_setItem_pairs (hsz:=hz) (mf ry) dd λh' dd' hs=>h _ ?_
  have he:∃ q,h'.get? a=some q:=let⟨q,_,_,hq,_⟩:=dd';⟨q,hq⟩;exact nV I (by rw[e];exact True.intro) hs he (rp hl hd (rel.put k rv) dd')
 .subst ey eH;cases(show u=Value.ref b from ry);obtain⟨z,hd,xs,rel,dd⟩:=HP I.hok e;have hz:xs.length<=bn:=by rw[<-Paired.length rel];exact z
  have hl:(putK kvs k v).length<=bn:=by have:=d9 kvs k v;omega
  refine wpAny_setItem_heap (hsz:=hz) (tupleKind_room_in1 hu) (qY I.hok eb) dd λh' dd' hs=>h _ ?_
  obtain⟨q,es,ep,hq,h2,h3,h4,_,h5⟩:=dd';refine nV I (by rw[e];exact True.intro) hs ⟨q,hq⟩ ⟨hl,hd,_,(rel.put k eb rv).keeps λc ys ec=>?_,q,es,ep,hq,h2,h3,h4,h5⟩;rw[ak (GH ec e (λz=>nomatch z))];exact ec
end
section
variable {X:Cx}{Y:LF}{U:St}{H:Hp}{s:Shared}{a:Addr}{kvs:List (Key×V)}{k:Key}{u:Value}{A:Around}{E:LD}
end
def oY {X:Cx}{a:Addr}(I:Inv X Y U H s)(g:Fl H a y o):s.TypeIs (.ref a) "dict":=by
 rcases g with⟨kvs,k,e,_,_⟩|⟨kvs,k,b,e,_,_,_⟩
 .obtain⟨_,_,vs,_,dd⟩:=iT I.hok e;exact dd.typeIs
 .obtain⟨_,_,xs,_,dd⟩:=yB I.hok e;exact dd.typeIs
section
variable {X:Cx}{o i e value:Expr}{pos pos' tpos:Pos}{td ty tv:TE}
end
def wN (h:Heap)(hb:sysModules<h.objs.size):aL P w H (h.push { cls:=.type "dict",data:=.dict #[] }) h.objs.size (.dK []):=
 ⟨Nat.zero_le _,beq_eq_false_iff_ne.mpr (Ne.symm (pc hb)),[],.nil,Heap.DictOf.new h⟩
section
variable {X:Cx}{pos:Pos}
end
section
variable {X:Cx}{Y:LF}{U:St}{H:Hp}{s:Shared}{a:Addr}{y d:V}{u r:Value}{o:Option V}{A:Around}{E:LD}
end
section
variable {X:Cx}{o e f:Expr}{apos cpos:Pos}{td ty tx:TE}
end
section
variable {X:Cx}{Y:LF}{U:St}{H:Hp}{s:Shared}{a:Addr}{kvs:List (Key×V)}{A:Around}{E:LD}
end
section
variable {X:Cx}{Y:LF}{U:St}{H:Hp}{s:Shared}{a:Addr}{y:V}{u:Value}{A:Around}{E:LD}
end
end L2
namespace Att
open PySem PySem.W PySem.Calls PyProof.Rows
variable {P:Params}
def jA {h:Heap}:∀ (ns:List Int) (vs:List Value),WellAll P h vs (ns.map WData.int)->IntsAre vs ns:=by
 intro ns
 induction ns with
 |nil=>
  intro vs w;rw[List.map_nil]at w;cases w;exact .nil
 |cons n ns ih=>
  intro vs w;rw[map_cons]at w;cases w with
  |cons a b=>
   cases a;exact .cons _ _ (ih _ b)
variable {l:OpenLaw}
def vn {n:Nat}(hn:l.most=some n){h:Heap}{args:List WData}{vals:List Value}
  (hpre:l.row.toRowW.claim.pre args=true) (hwl:WellAll P h vals args):
  ∃ a vs ns,vals=[Value.ref a]/\args=[WData.list (ns.map WData.int)]/\h.get? a=some { cls:=.type "list",data:=.seq vs.toArray }/\IntsAre vs ns/\ns.length<=n:=by
 have hsh:WShape.hasAll [] args [.list .int]=true:=(pre_splitW hpre).1;have hc:l.pre.holds [] { args:=args }=true:=(pre_splitW hpre).2;obtain⟨d,r,rfl,h1,h2⟩:=hasAllW_cons hsh;obtain rfl:=hasAllW_nil h2;obtain⟨xs,rfl,h3⟩:=hasW_list h1;obtain⟨ns,rfl⟩:=items_int h3;have hlen:ns.length<=n:=by
  unfold OpenLaw.pre at hc;have h4:(WTm.not (.lt (.lit (.int (n:Int))) (.len (.arg 0)))).holds [] { args:=[.list (ns.map .int)] }=true:=by
   have h4:=(holds_andW hc).1;rw[hn]at h4;exact h4
  have h5:=condW_of h4 (w_not (w_lt w_lit (w_len_list (w_arg rfl))));rw[ce]at h5;refine Nat.le_of_not_lt λq=>?_
  have q':(n:Int)<((ns.length:Nat):Int):=by omega
  first
   |(rw[decide_eq_true q']at h5;exact absurd h5 (by decide))
   |(simp at h5;omega)
 cases hwl with
 |cons w1 w2=>
  cases w2;cases w1 with
  |list ho hall=>exact⟨_,_,ns,rfl,rfl,ho,jA ns _ hall,hlen⟩
def vX (l:OpenLaw)(args:List WData):l.row.toRowW.claim.post args (.bool true) args=true:=
 postW_of (r:=l.row.toRowW) (X:=(true ==true))
  (show WShape.has [] (.bool true) .bool=true by first|rfl|decide|simp[WShape.has,WShape.arms,WShape.armsAll])
  (show(WTm.eq .res (.lit (.bool true))).value [] { args:=args,res:=some (.bool true),after:=args }=some (.bool (true ==true)) from w_eq_bool (w_res rfl) w_lit) rfl
def pk {n:Nat}{q:Program}{loose:List Str}{XP:(Str->Option Value)->Heap->Prop}{YP:World->Heap->Prop}{d:DefRec}
  (hn:l.most=some n) (hdf:d.params.defaults=[])
  (call:∀ (w:World) (s₀ s₁:Shared) (mg mb:LG) (fa:Addr) (o:Obj) (pm cd doc:Value) (a:Addr) (vs:List Value) (ns:List Int),
   Ground q loose [] XP w s₀ mg mb s₁.heap->YP w s₁.heap->
   s₁.heap.get? fa=some o->o.data=.func (docDef d.name d.params d.body d.scope pm cd doc)->s₁.heap.CodeRec cd d.name->mg d.name=some (.ref fa)->
   s₁.heap.get? a=some { cls:=.type "list",data:=.seq vs.toArray }->IntsAre vs ns->ns.length<=n->s₁.gens=#[]->
   codeAny (model l.prog w) callerA (.call (.ref fa) ⟨[.ref a],[]⟩) (λr s'=>r=.ok (.ret (.bool true))/\OldK s₁.heap s'.heap/\s'.os=s₁.os/\AllBare s'.gens) s₁):
  WalkO q loose XP YP l.row.toRowW d [] (λf vs=>PySem.call f vs):=by
 intro w s₀ s₁ mg mb G Y fa o pm cd doc dV kV ho hd hcd hD hmg hg args vals as hpre hlay hrd hwl hlo;obtain rfl:dV=.none:=Dflts.none hD hdf;obtain rfl:kV=.none:=Dflts.noKw hD;obtain⟨a,vs,ns,rfl,rfl,hobj,hints,hlen⟩:=vn hn hpre hwl;refine enter_call (codeAny_mono (call w s₀ s₁ mg mb fa o pm cd doc a vs ns G Y ho (fd_plain hd) hcd hmg hobj hints hlen hg) λr s' hq=>?_);obtain⟨rfl,h2,h3,h4⟩:=hq;exact⟨.inl ⟨.bool true,.bool true,[],rfl,λ_=>rfl,.bool true,vX l _,λ_=>⟨List.Pairwise.nil,λ_ hm=>(nomatch hm)⟩⟩,h2,h3,h4⟩
section
variable {prog:Program}{w:World}{A:Around}{E:LD}{s:Shared}{K:Frag}
end
end Att
namespace L2
open PySem PySem.Spec PyProof.Rows
def mj:∀ {vs:List Value}{ns:List Int},IntsAre vs ns->Vals (ns.map V.int) vs
 |_,_,.nil=>.nil
 |_,_,.cons n t h=>.cons ⟨t,rfl⟩ (mj h)
abbrev EF (H:Hp):Prop:=∀ b,H b=none\/∃ o xs,H b=some (.frz o (.lst xs))
def xY {P:Program}{w:World}{K:W.Frag}{mg mb:LG}{CX:qT}{k:Nat}{fa a:Addr}{fd:FuncData}{x:Str}{sp:Sp}{s₁:Shared}{vs:List Value}{ns:List Int}
  (KX:K.In s₁.heap) (hns:s₁.heap.Ns mainGlobals mg) (hb:s₁.heap.Ns builtinsNs mb) (hbb:∀ x:Str,x≠"__name__"->mb x=bootBuiltins x) (hlim:s₁.heap.NoLimit) (hg:s₁.gens=#[])
  (ha:s₁.heap.get? a=some { cls:=.type "list",data:=.seq vs.toArray }) (hi:IntsAre vs ns) (hl:ns.length<=bn) (hr:bE k callerA)
  (F:∀ base:Heap,K.In base->base.Ns mainGlobals mg->cN P w K mg base CX k fa fd [x] sp) (hbind:∀ (s:Shared) (u:Value),BindsTo s fd ⟨[u],[]⟩ [(x,u)])
  (hsp:∀ H:Hp,EF H->bj K H a (ns.map V.int)->sp [.ref a] H (λv _=>v=.bl true) λ_ _=>False)
  (hCX:∀ H e s',CX [] H s₁ (λ_ _=>False) e s'->False):
  codeAny (model P w) callerA (.call (.ref fa) ⟨[.ref a],[]⟩) (λr s'=>r=.ok (.ret (.bool true))/\OldK s₁.heap s'.heap/\s'.os=s₁.os/\AllBare s'.gens) s₁:=by
 have rv:=mj hi;have lenV:=hi.length;have core:∀ H:Hp,EF H->bj K H a (ns.map V.int)->fR P w H s₁.heap->(∀ b,H b≠none->b=a)->(H a≠none->K.lookup a=none)->
   codeAny (model P w) callerA (.call (.ref fa) ⟨[.ref a],[]⟩) (λr s'=>r=.ok (.ret (.bool true))/\OldK s₁.heap s'.heap/\s'.os=s₁.os/\AllBare s'.gens) s₁:=by
  intro H hO hS hok hA hK;have base_of:∀ {b:Addr}{o:Obj},s₁.heap.get? b=some o->H b=none->(nh s₁.heap H).get? b=some o:=λe n=>yP e n
  have noA:∀ {b:Addr}{o:Obj}{es:Array DictEntry}{ep:Nat},s₁.heap.get? b=some o->o.data=.dict es ep->H b=none:=λ{b o es ep} e d=>by
   cases q:H b with
   |none=>rfl
   |some u=>
    have e':b=a:=hA b (by rw[q];simp);subst e';rw[ha]at e;cases e;have d':Data.seq vs.toArray _=Data.dict es ep:=d;cases d'
  have nsK:∀ {b:Addr}{m:LG},s₁.heap.Ns b m->(nh s₁.heap H).Ns b m:=λ{b m} ⟨o,es,ep,e,d,r⟩=>⟨o,es,ep,base_of e (noA e d),d,r⟩
  have hKb:K.In (nh s₁.heap H):=λb o e=>base_of (KX b o e) (by
   cases q:H b with
   |none=>rfl
   |some u=>
    have e':b=a:=hA b (by rw[q];simp);subst e';rw[hK (by rw[q];simp)]at e;cases e)
  have hM:Mod K mg (nh s₁.heap H):=⟨hKb,nsK hns,⟨mb,nsK hb,hbb⟩,let⟨mc,h1,h2⟩:=hlim;⟨mc,nsK h1,h2⟩⟩;have e0:rJ P w K mg (nh s₁.heap H) callerA [] s₁ H:=⟨rfl,hM,λb o e=>Ap e,Nat.le_of_eq (uU _ _),trivial,λb hb=>absurd (show b ∈ ([]:List Addr) from hb) (by simp),hok,.of_eq hg⟩;refine codeAny_mono ((F _ hKb (nsK hns)).run callerA [] s₁ H ⟨[.ref a],[]⟩ [.ref a] [.ref a] _ _ hr e0 (hbind s₁ (.ref a)) (.cons rfl .nil) (hsp H hO hS)) λr s' h=>?_
  cases r with
  |error e=>exact(hCX H e s' h).elim
  |ok fl=>
   cases fl with
   |next=>exact False.elim h
   |brk=>exact False.elim h
   |cont=>exact False.elim h
   |ret u=>
    obtain⟨v,H',os,bare,un,hok',r',q⟩:=h;have q':v=.bl true:=q;subst q';obtain rfl:u=Value.bool true:=r';refine⟨rfl,OldK.of_keep λb o e=>?_,os,bare⟩;cases q:H b with
    |none=>exact un.keep b o e q (by intro z;exact absurd (show b ∈ ([]:List Addr) from z) (by simp)) (by simp)
    |some u=>
     rcases hO b with z|⟨ob,xs,z⟩
     .rw[q]at z;cases z
     .have z2:=un.frzs b ob _ z;obtain⟨e1,_⟩:=hok b _ z;obtain⟨e2,_⟩:=hok' b _ z2;rw[e]at e1;cases e1;exact e2
 cases hk:K.lookup a with
 |some o=>
  have e:=KX a o hk;rw[ha]at e;cases e;refine core (λ_=>none) (λ_=>.inl rfl) (.inr ⟨_,vs.toArray,_,hk,rfl,rfl,rfl,by rw[ge,lenV];exact hl,by simpa using rv⟩) (λb u z=>by have z':(none:Option HO)=some u:=z;cases z') (λb z=>absurd rfl z) λz=>absurd rfl z
 |none=>
  refine core (λb=>if b=a then some (.frz { cls:=.type "list",data:=.seq vs.toArray } (.lst (ns.map V.int))) else none) (λb=>?_) (.inl (.inr ⟨{ cls:=.type "list",data:=.seq vs.toArray },if_pos rfl⟩)) (λb u z=>?_) (λb z=>?_) λ_=>hk
  .by_cases hb:b=a
   .exact .inr ⟨_,_,if_pos hb⟩
   .exact .inl (if_neg hb)
  .by_cases hb:b=a
   .have z':=(if_pos hb).symm.trans z;cases z';subst hb;exact⟨ha,by rw[ce];exact hl,vs,_,rv,ha⟩
   .have z':=(if_neg hb).symm.trans z;cases z'
  .by_cases hb:b=a
   .exact hb
   .exact absurd (if_neg hb) z
def Bj {l:W.OpenLaw}{n k:Nat}{q:Program}{loose:List Str}{XP:(Str->Option Value)->Heap->Prop}{YP:World->Heap->Prop}{d:DefRec}{K:Params->W.Frag}{CX:World->qT}{sp:World->Sp}{x:Str}
  (hn:l.most=some n) (hn2:n<=bn) (hdf:d.params.defaults=[]) (hr:bE k callerA)
  (hY:∀ (w:World) (h:Heap),YP w h->(K w.params).In h)
  (F:∀ (w:World) (mg:LG) (fa:Addr) (h:Heap),(K w.params).In h->h.Ns mainGlobals mg->mg d.name=some (.ref fa)->
   ∃ fd:FuncData,(∀ (s:Shared) (u:Value),BindsTo s fd ⟨[u],[]⟩ [(x,u)])/\
    ∀ base:Heap,(K w.params).In base->base.Ns mainGlobals mg->cN l.prog w (K w.params) mg base (CX w) k fa fd [x] (sp w))
  (hsp:∀ (w:World) (H:Hp) (a:Addr) (ns:List Int),ns.length<=n->EF H->bj (K w.params) H a (ns.map V.int)->sp w [.ref a] H (λv _=>v=.bl true) λ_ _=>False)
  (hCX:∀ (w:World) (H:Hp) (s:Shared) (e:Value) (s':Shared),CX w [] H s (λ_ _=>False) e s'->False):
  W.WalkO q loose XP YP l.row.toRowW d [] (λf vs=>PySem.call f vs):=by
 refine Att.pk hn hdf λw s₀ s₁ mg mb fa o pm cd doc a vs ns G Y ho hd hcd hmg hobj hints hlen hg=>?_
 have KX:=hY w _ Y;obtain⟨fd,hb,hF⟩:=F w mg fa _ KX G.T.g hmg;exact xY KX G.T.g G.T.b G.T.builtins G.T.nolimit hg hobj hints (Nat.le_trans hlen hn2) hr hF hb (λH hO hS=>hsp w H a ns hlen hO hS) λH e s'=>hCX w H s₁ e s'
section
variable {P:Program}{w:World}{K:W.Frag}{mg:LG}{base:Heap}
end
def cR {n:Nat}(h:n<=1000):n<bn:=Nat.lt_of_le_of_lt h (by decide)
section
variable {X:Cx}
end
end L2
namespace L2
open PySem PySem.Spec PySem.W PyProof.Rows PySem.Builtin PySem.Builtin.ObjectAttr
variable {rs:List Addr}
section
variable {prog:Program}{w:World}{A:Around}{E:LD}{s:Shared}{K:W.Frag}{x C:Addr}{ox od:Obj}{name:Str}{expr:Bool}{v:Value}{Q:LD}
def pD:builtinKind "BaseException.__getattribute__"=some .slot:=by decide+kernel
def mL:splitId "BaseException.__getattribute__"=some ("BaseException","__getattribute__"):=by decide+kernel
def AM (X:K.In s.heap)(I:W.InstAt s.heap x ox C (some od))(hga:W.findIn K (.ref C) "__getattribute__"=some (some (.builtin "BaseException.__getattribute__"))) (hgn:W.findIn K (.ref C) "__getattr__"=some none)
  (hb:W.mroIn K C (.type "BaseException")=some true) (hf:W.findObj K C (some od) name=some (.value v)) (hh:W.handedIn v=true) (h:Q v { s with toks:=s.toks+1 }):
  wpAny (model prog w) A (getAttr (.ref x) name expr) Q E s:=by
 obtain⟨hp,g,d,t,os⟩:=s;have L0:=I.type (M:=model prog w);have L1:=looks_findIn (M:=model prog w) X hga;have L2':=looks_findIn (M:=model prog w) X hgn;have L3:=looks_find (M:=model prog w) X I hf;have L4:Looks (model prog w) hp (isInstance (.ref x) (.type "BaseException")) true:=I.type.andThen (looks_mroIn X hb);unfold getAttr getAttrBy;refine ad (wpAny_mkText (bd (ad (L0.at (ad (L1.at ?_))))));have e1:(Value.builtin "BaseException.__getattribute__" ==Value.builtin "object.__getattribute__")=false:=by decide+kernel
 dsimp only;rw[e1,Bool.and_false];show wpAny _ _ (getAttrByItsOwn _ _ _ _ _ _) _ _ _;unfold getAttrByItsOwn hookBefore;refine ad (L2'.at ?_);refine ad (wpAny_attempt (bd ?_));have e2:(expr&&onTheHeap (Value.builtin "BaseException.__getattribute__"))=false:=by cases expr<;>rfl
 unfold callGetattribute;rw[e2];show wpAny _ _ (boundAndCalled _ _ _) _ _ _;unfold boundAndCalled;rw[PySem.F.attr_ValueError.ga.bind];refine ad (am (wpAny_call (codeAny_call_builtin PySem.F.attr_ValueError.ga.plain PySem.F.entry_bexc_ga ?_)));refine @check_slot (model prog w) _ _ _ "BaseException.__getattribute__" "BaseException" "__getattribute__" (.ref x) [.str name t] [] _ pD mL L4 (PySem.F.args_bexc_ga (.ref x) (.str name t)) ?_;unfold Builtin.«object.__getattribute__»;refine ad (am (ad (am (ad (L0.at (ad (L3.at ?_)))))));refine am ?_;show wpAny _ _ (handedOut v) _ _ _;rw[handedOut_of hh];exact am h
abbrev xU:Value->Bool
 | .ref _=>true
 |_=>false
abbrev bR:List Value:=[.type "ValueError",.type "Exception",.type "BaseException",.type "object"]
abbrev dz (l:List Value):Bool:=l.dropWhile xU ==bR
def dB:∀ {l:List Value},dz l=true->∃ rs:List Addr,l=rs.map Value.ref++bR
 | [],e=>by cases e
 |c::r,e=>by
  by_cases h:xU c=true
  .have e':dz r=true:=by
    unfold dz at e⊢;rw[List.dropWhile_cons_of_pos h]at e;exact e
   obtain⟨rs,q⟩:=dB e';cases c with
   |ref a=>exact⟨a::rs,by rw[q];rfl⟩
   |_=>cases h
  .unfold dz at e;rw[List.dropWhile_cons_of_neg h]at e;exact⟨[],beq_iff_eq.mp e⟩
def kD (self:Value):∀ rs:List Addr,refuseLoop self "__setattr__" (rs.map Value.ref++bR)=pure ()
 | []=>PySem.F.store_ValueError.passes self
 |a::r=>by rw[map_cons,cons_append,refuseLoop_ref];exact kD self r
structure cG (K:W.Frag) (C:Addr):Prop where
 mt:W.typeIn K (.ref C)=some (.type "type")
 ov:(W.clsIn K C).any (λcd=>dz cd.mro)=true
 hd:W.hasDictIn K C=true
 ga:W.findIn K (.ref C) "__getattribute__"=some (some (.builtin "BaseException.__getattribute__"))
 gn:W.findIn K (.ref C) "__getattr__"=some none
 sa:W.findIn K (.ref C) "__setattr__"=some (some (.builtin "object.__setattr__"))
def cG.mro {K:W.Frag}(c:cG K C):∃ (cd:ClassData) (rs:List Addr),W.clsIn K C=some cd/\cd.mro=rs.map Value.ref++bR:=by
 obtain⟨cd,h1,h2⟩:=W.any_some c.ov;obtain⟨rs,h3⟩:=dB h2;exact⟨cd,rs,h1,h3⟩
def p6 (h:bR.contains v=true):(rs.map Value.ref++bR).contains v=true:=by
 rw[List.contains_eq_mem,decide_eq_true_eq]at h⊢;exact ii _ h
def tX:(rs.map Value.ref++bR).isEmpty=false:=by cases rs<;>rfl
def cG.sub {K:W.Frag}(c:cG K C)(h:bR.contains v=true):W.mroIn K C v=some true:=by
 obtain⟨cd,rs,h1,h2⟩:=c.mro;unfold W.mroIn;rw[h1,Option.bind_some,h2,if_neg (by rw[tX];decide),p6 h]
variable {R:Result->Shared->Prop}
def qB {tk:Tok}{odo:Option Obj}(X:K.In s.heap)(I:W.InstAt s.heap x ox C odo)(c:cG K C)(ht:W.findIn K (.ref C) name=some none)
  (h:wpAny (model prog w) A.in1 (storeInOwnDict (.ref x) (.ref C) (.str name tk) name v false)
   (λfin s'=>match fin with| .done f=>R (.ok f) s'| .again c'=>c'.quiet=true/\codeAny (model prog w) A c' R s') (λe s'=>R (.error e) s') s):
  codeAny (model prog w) A (.call (.builtin "object.__setattr__") ⟨[.ref x,.str name tk,v],[]⟩) R s:=by
 have SF:=PySem.F.store_object;obtain⟨cd,rs,hc,hm⟩:=c.mro;have sub:Looks (model prog w) s.heap (isInstance (.ref x) (.type "object")) true:=I.type.andThen (looks_mroIn X (c.sub (by decide+kernel)));refine codeAny_call_builtin SF.slot.plain SF.entry (@check_slot (model prog w) _ _ s "object.__setattr__" "object" "__setattr__" (.ref x) [.str name tk,v] [] _ SF.kind SF.split sub (SF.args (.ref x) (.str name tk) v) ?_);have hl:Looks (model prog w) s.heap (mroOf (.ref C)) cd.mro:=(looks_clsIn X hc).andThen .now;rw[osa_eq,refuse_eq];refine ad (ad (I.type.here (ad (hl.here ?_))));rw[hm,kD];refine am (ad (I.type.here (ad ((looks_findIn X ht).here (ad (am ?_))))));exact h
end
variable {Q:LD}{u:Value}
section
variable {X:Cx}{Y:LF}{U:St}{H:Hp}{s:Shared}{a C dx:Addr}{fs:List (Str×V)}{f:Str}{v:V}{A:Around}{E:LD}{fr:Bool}
def vm {b:Bool}(I:Inv X Y U H s)(e:H a=some (.exc C (some dx) fs fr))(c:cG X.K C)(n:eO X.K C f)(l:fs.lookup f=some v)
  (h:∀ u s',Inv X Y U H s'->RelV v u->Q u s'):wpAny (model X.prog X.w) A (getAttr (.ref a) f b) Q E s:=by
 obtain⟨⟨vs,ho,_⟩,z⟩:=I.hok a _ e;rcases z with⟨z,_⟩|⟨d,ed,_,_,_,mA,hn,r,_⟩
 .cases z
 cases ed;obtain⟨u,hu,ru⟩:=cL.some_of (v:=v) (o:=mA f) (by rw[<-l];exact r f);obtain⟨od,hod,hl⟩:=g9 hn;refine AM (ox:={ cls:=.ref C,dict:=some dx,data:=.fields vs }) (od:=od) I.bL ⟨ho,rfl,rfl,hod⟩ c.ga c.gn (c.sub (by decide+kernel)) (W.findObj_own c.hd n rfl (by rw[hl,hu])) (mx ru) (h u _ (I.tok _) ru)
def sY {y:V}{Q:LB}(I:Inv X Y U H s)(e:H a=some (.exc C (some dx) fs fr))(c:cG X.K C)(n:eO X.K C f)(hl:fs.length<1000)(ry:RelV y u)
  (h:∀ s',Inv X Y U (upd H a (.exc C (some dx) (cF f y fs) fr)) s'->Q () s'):wpAny (model X.prog X.w) A (setAttr (.ref a) f u) Q E s:=by
 obtain⟨⟨vs,ho,zz⟩,z⟩:=id (I.hok a _ e);rcases z with⟨z,_⟩|⟨d,ed,hown,_,hne,mA,hn,r,wi⟩
 .cases z
 cases ed;obtain⟨od,hod,hlk⟩:=g9 hn;have hz:(fs.map (·.1)).length<=bn:=by rw[ce,sizeLine_eq];omega
 have J:W.InstAt s.heap a { cls:=.ref C,dict:=some dx,data:=.fields vs } C (some od):=⟨ho,rfl,rfl,hod⟩;refine W.set_plain I.bL J c.sa (qB (s:={ s with toks:=s.toks+1 }) I.bL J c n ?_);obtain⟨cd,hc,hd'⟩:=W.any_some c.hd;refine ad (am (ad (ad (wpAny_loadPart ho (ad (W.Looks.here (s:={ s with toks:=s.toks+1 }) (W.looks_clsIn I.bL hc) ?_))))));rw[hd'];refine am (a:=some dx) (ad (am (ad ?_)));refine wpAny_nsSet1 (s:={ s with toks:=s.toks+1 }) hn λh' hn2 hs2=>?_
 obtain⟨oD,esD,epD,hoD,hdD,hcD⟩:=hn2.count (PySem.Within.cons f u wi);refine ad (wpAny_lookBehind hoD (by rw[hdD];exact pastItsLine_dict (Nat.le_trans hcD (by rw[length_cons];omega))) ?_);refine am (h _ ?_);refine I.write (x:=a) (e:=dx) (by rw[e];exact True.intro) (.inr hown) (λb q hb z=>(hs2.2 b hb).trans z) ⟨oD,hoD⟩ ?_;refine⟨⟨vs,(hs2.2 _ (Ne.symm hne)).trans ho,zz⟩,.inr ⟨dx,rfl,by rw[ak hne];exact hown,?_,hne,_,hn2,λg=>?_,λg hg=>?_⟩⟩
 .have:=eU f y fs;omega
 .show cL ((cF f y fs).lookup g) (if g=f then some u else mA g);rw[eE]
  by_cases q:g=f
  .rw[if_pos q,if_pos q];exact ry
  .rw[if_neg q,if_neg q];exact r g
 .by_cases q:g=f
  .rw[q];exact(dg f y fs).1
  .refine(dg f y fs).2 g (wi g λz=>hg ?_);show(if g=f then some u else mA g)=none;rw[if_neg q];exact z
def rq {y:V}{Q:LB}(I:Inv X Y U H s)(e:H a=some (.exc C none fs fr))(c:cG X.K C)(n:eO X.K C f)(ry:RelV y u)
  (h:∀ d s',H d=none->Inv X Y U (upd (upd H d (.own a)) a (.exc C (some d) [(f,y)] fr)) s'->Q () s'):wpAny (model X.prog X.w) A (setAttr (.ref a) f u) Q E s:=by
 obtain⟨⟨vs,ho,zz⟩,z⟩:=id (I.hok a _ e);have hfs:fs=[]:=by
  rcases z with⟨_,z⟩|⟨d,ed,_⟩
  .exact z
  .cases ed
 subst hfs;have J:W.InstAt s.heap a { cls:=.ref C,dict:=none,data:=.fields vs } C none:=⟨ho,rfl,rfl,True.intro⟩;refine W.set_plain I.bL J c.sa (qB (s:={ s with toks:=s.toks+1 }) I.bL J c n ?_);obtain⟨cd,hc,hd'⟩:=W.any_some c.hd;refine ad (am (ad (ad (wpAny_loadPart ho (ad (W.Looks.here (s:={ s with toks:=s.toks+1 }) (W.looks_clsIn I.bL hc) ?_))))));rw[hd'];have hlt:=tz ho;have hxs:a≠s.heap.objs.size:=pc hlt;have ho1:(s.heap.push { cls:=.type "dict",data:=.dict #[] }).get? a=some { cls:=.ref C,dict:=none,data:=.fields vs }:=sK _ ho;refine ad (wpAny_alloc' ?_);refine ad (wpAny_update' ho1 ?_);refine am ?_;have hgd:((s.heap.push { cls:=.type "dict",data:=.dict #[] }).update a λo=>{ o with dict:=some s.heap.objs.size }).get? s.heap.objs.size=some { cls:=.type "dict",data:=.dict #[] }:=
  (Heap.get?_update_ne _ _ _ _ hxs.symm).trans (Heap.get?_push_at rfl rfl)
 have hga:((s.heap.push { cls:=.type "dict",data:=.dict #[] }).update a λo=>{ o with dict:=some s.heap.objs.size }).get? a=some { cls:=.ref C,dict:=some s.heap.objs.size,data:=.fields vs }:=
  Heap.get?_update_self _ ho1 rfl
 have hnd:((s.heap.push { cls:=.type "dict",data:=.dict #[] }).update a λo=>{ o with dict:=some s.heap.objs.size }).Ns s.heap.objs.size (λ_=>none):=
  ⟨_,#[],_,hgd,rfl,λe he=>absurd he (by simp),λ_=>rfl⟩
 show wpAny _ _ (storeInDict s.heap.objs.size (.str f _) f u) _ _ _;unfold storeInDict newKeyGuard;refine ad (am (ad (wpAny_nsSet1 (Heap.Ns1.of_empty hnd) λh' hn2 hs2=>?_)));obtain⟨oD,esD,epD,hoD,hdD,hcD⟩:=hn2.count (PySem.Within.cons f u PySem.Within.nil);refine ad (wpAny_lookBehind hoD (by rw[hdD];exact pastItsLine_dict (Nat.le_trans hcD (by rw[length_cons,length_nil,sizeLine_eq];omega))) ?_);have hd0:H s.heap.objs.size=none:=I.hok.fresh (pi _);refine am (h s.heap.objs.size _ hd0 ?_);have e':upd H s.heap.objs.size (.own a) a=some (.exc C none [] fr):=by rw[ak hxs];exact e
 have I1:Inv X Y U (upd H s.heap.objs.size (.own a)) { s with heap:=s.heap.push { cls:=.type "dict",data:=.dict #[] },toks:=s.toks+1 }:=
  I.laid (a:=s.heap.objs.size) (o:=.own a) (t':=s.toks+1) (λb u q=>sK _ q) (pi _) ⟨_,ul s.heap rfl⟩
 have I2:=I1.write (x:=a) (e:=a) (o:=.exc C (some s.heap.objs.size) [] fr) (t':=s.toks+1) (h':=(s.heap.push { cls:=.type "dict",data:=.dict #[] }).update a λo=>{ o with dict:=some s.heap.objs.size })
  (by rw[e'];exact True.intro) (.inl rfl) (λb q hb z=>(Heap.get?_update_ne _ _ _ _ hb).trans z) ⟨_,hga⟩
  ⟨⟨vs,hga,zz⟩,.inr ⟨_,rfl,by rw[ak hxs.symm,aB],Nat.zero_le _,hxs.symm,_,Heap.Ns1.of_empty hnd,λ_=>True.intro,λy hy=>absurd rfl hy⟩⟩
 have ga':h'.get? a=some { cls:=.ref C,dict:=some s.heap.objs.size,data:=.fields vs }:=(hs2.2 a hxs).trans hga;have I3:=I2.write (x:=a) (e:=s.heap.objs.size) (o:=.exc C (some s.heap.objs.size) [(f,y)] fr) (t':=s.toks+1+1) (h':=h') (by rw[aB];exact True.intro) (.inr (by rw[ak hxs.symm,aB]))
  (λb q hb z=>(hs2.2 b hb).trans z) ⟨oD,hoD⟩
  ⟨⟨vs,ga',zz⟩,.inr ⟨_,rfl,by rw[ak hxs.symm,ak hxs.symm,aB],by show 1<=1000;decide,hxs.symm,_,hn2,λg=>?_,λg hg=>?_⟩⟩
 .rw[Ae]at I3;exact I3
 .show cL (List.lookup g [(f,y)]) (if g=f then some u else none)
  by_cases q:g=f
  .have hb:(g ==f)=true:=beq_iff_eq.mpr q;simp only[List.lookup,hb,if_pos q];exact ry
  .have hb:(g ==f)=false:=beq_eq_false_iff_ne.mpr q;simp only[List.lookup,hb,if_neg q];exact True.intro
 .by_cases q:g=f
  .rw[q];simp
  .exact absurd (show(if g=f then some u else none)=none by rw[if_neg q]) hg
end
section
variable {X:Cx}{Y:LF}{U:St}{H:Hp}{s:Shared}{a C:Addr}{dx:Option Addr}{fs:List (Str×V)}{f:Str}{v:V}{A:Around}{E:LD}{fr:Bool}
def Inv.fields {vs':Array Value}{h':Heap}{t':Nat}(I:Inv X Y U H s)(e:H a=some (.exc C dx fs fr))(hs:vs'.size=6)(h1:fr=true->vs'[1]? =some Value.none)
  (ha:h'.get? a=some { cls:=.ref C,dict:=dx,data:=.fields vs' }) (k:∀ b u,b≠a->s.heap.get? b=some u->h'.get? b=some u):Inv X Y U H { s with heap:=h',toks:=t' }:=by
 have I2:=I.write (x:=a) (e:=a) (o:=.exc C dx fs fr) (t':=t') (h':=h') (by rw[e];exact True.intro) (.inl rfl) k ⟨_,ha⟩ ?_
 .have:upd H a (.exc C dx fs fr)=H:=by
   funext b
   by_cases hb:b=a
   .rw[hb,aB,e]
   .rw[ak hb]
  rw[this]at I2;exact I2
 .obtain⟨_,z⟩:=id (I.hok a _ e);refine⟨⟨vs',ha,hs,h1⟩,?_⟩;rcases z with z|⟨d,ed,d1,z1,ne,mA,⟨od,es,ep,e2,c⟩,r⟩
  .exact .inl z
  .exact .inr ⟨d,ed,by rw[ak ne];exact d1,z1,ne,mA,⟨od,es,ep,k _ _ ne e2,c⟩,r⟩
def jW {R:Result->Shared->Prop}(I:Inv X Y U H s)(e:H a=some (.exc C dx fs fr))(c:cG X.K C)
  (h:∀ s',Inv X Y U H s'->R (.ok (.ret .none)) s'):codeAny (model X.prog X.w) A (.call (.builtin "ValueError.__init__") ⟨[.ref a,u],[]⟩) R s:=by
 have F:=PySem.F.excCall_ValueError;obtain⟨⟨vs,ho,hsz,h1⟩,z⟩:=id (I.hok a _ e);have L4:Looks (model X.prog X.w) s.heap (isInstance (.ref a) (.type "ValueError")) true:=(show Looks (model X.prog X.w) s.heap (typeOf (.ref a)) (.ref C) from(Looks.ld ho).andThen .now).andThen (looks_mroIn I.bL (c.sub (by decide+kernel)));refine codeAny_call_builtin F.init.plain F.initEntry ?_;simp only[checkBuiltinCall,F.initKind,F.initSplit,F.initRow];refine ad (L4.here ?_);simp only[Bool.not_true,Bool.false_eq_true,if_false];have hshort:("ValueError" != "*")=true:=by decide
 have h0:∃ a0,vs[0]? =some a0:=⟨_,Array.getElem?_eq_getElem nofun⟩;obtain⟨a0,h0⟩:=h0;obtain⟨hp,g,d,t,os⟩:=s;unfold Bind.checkArgs;have hn:Looks (model X.prog X.w) hp (typeOf (.ref a)) (.ref C):=(Looks.ld ho).andThen .now;obtain⟨cd,rs,hcl,_⟩:=c.mro;obtain⟨oc,od,sl,hC⟩:∃ oc od sl,hp.get? C=some ⟨oc,od,.cls cd,sl⟩:=by
  unfold W.clsIn at hcl
  split at hcl
  .rename_i ho';cases hcl;exact⟨_,_,_,I.bL _ _ ho'⟩
  .cases hcl
 repeat(first|with_reducible refine wpAny_load hC ?_|wp_step)
 rw[h0];have ho1:(hp.push { cls:=.type "tuple",data:=.seq #[u] }).get? a=some { cls:=.ref C,dict:=dx,data:=.fields vs }:=sK _ ho;have hq:=Heap.get?_update_self (Obj.mapFields (·.setIfInBounds 0 (.ref hp.objs.size))) ho1 (Obj.isFreed_of_fields (Obj.data_mapFields rfl _));have fin:R (.ok (.ret Value.none)) ⟨(hp.push { cls:=.type "tuple",data:=.seq #[u] }).update a (Obj.mapFields (·.setIfInBounds 0 (.ref hp.objs.size))),g,d,t,os⟩:=by
  refine h _ (I.fields (vs':=vs.setIfInBounds 0 (.ref hp.objs.size)) (t':=t) e (by simpa using hsz) (λz=>?_) hq λb q hb z'=>?_)
  .rw[Array.getElem?_setIfInBounds_ne (by decide)];exact h1 z
  .exact(Heap.get?_update_ne _ _ _ _ hb).trans (sK _ z')
 refine am (ad (wpAny_setField ho1 rfl nofun ?_));cases a0<;>first|exact am (am fin)|exact wpAny_letGo (am fin)
def sA (I:Inv X Y U H s)(e:H a=some (.exc C dx fs fr))(c:cG X.K C)
  (h:∀ s',Inv X Y U H s'->Q .none s'):wpAny (model X.prog X.w) A (call (.builtin "ValueError.__init__") [.ref a,u]) Q E s:=wpAny_call (jW I e c h)
end
abbrev bU (K:W.Frag)(C:Addr):Bool:=match K.lookup C with
 |some ⟨_,_,.cls cd,sl⟩=>!cd.abstract&& !cd.hasDel&&(sl.toList[4]?).join ==some (.builtin "ValueError.__new__")&&dz cd.mro&&cd.mro.contains (.ref C)&&
   W.specialIn K (.ref C) "__call__" ==some (some (.builtin "type.__call__"))&&W.instIn K (.ref C) (.type "type") ==some true
 |_=>false
structure xt (M:Model) (h:Heap) (C:Addr):Prop where
 obj:∃ oc od cd sl,h.get? C=some ⟨oc,od,.cls cd,sl⟩/\cd.abstract=false/\cd.hasDel=false/\cd.mro.isEmpty=false
 made:W.Looks M h (Bind.madeBy (.ref C)) (some "ValueError.__new__")
 base:W.Looks M h (Bind.staticBase (.ref C)) (.ref C)
 self:W.Looks M h (isSubtype (.ref C) (.ref C)) true
 top:W.Looks M h (isSubtype (.ref C) (.type "ValueError")) true
 no1:W.Looks M h (isSubtype (.ref C) (.type "AttributeError")) false
 no2:W.Looks M h (isSubtype (.ref C) (.type "NameError")) false
 call:W.Looks M h (specialOf (.ref C) "__call__") (some (.builtin "type.__call__"))
 typ:W.Looks M h (isInstance (.ref C) (.type "type")) true
def tf {n:String}(h:bR.contains (.type n)=false):(rs.map Value.ref++bR).contains (.type n)=false:=by
 induction rs with
 |nil=>exact h
 |cons a r ih=>rw[map_cons,cons_append,List.contains_cons,ih];rfl
def lT {K:W.Frag}{M:Model}{h:Heap}(X:K.In h){C:Addr}(e:bU K C=true):xt M h C:=by
 unfold bU at e
 split at e
 .rename_i oc od cd sl ho;simp only[nb,Bool.not_eq_true',beq_iff_eq]at e;obtain⟨⟨⟨⟨⟨⟨e1,e2⟩,e3⟩,e4⟩,e5⟩,e7⟩,e8⟩:=e;obtain⟨rs,em⟩:=dB e4;have hc:W.clsIn K C=some cd:=by unfold W.clsIn;rw[ho]
  have hm:Looks M h (mroOf (.ref C)) cd.mro:=(looks_clsIn X hc).andThen .now;have ne:cd.mro.isEmpty=false:=by rw[em];exact tX
  obtain⟨c,l,hl⟩:∃ c l,cd.mro=c::l:=by
   cases q:cd.mro with
   |nil=>rw[q]at ne;cases ne
   |cons c l=>exact⟨c,l,rfl⟩
  have made:Looks M h (Bind.madeBy (.ref C)) (some "ValueError.__new__"):=by
   intro A Q E s k q;unfold Bind.madeBy;refine ad (hm A _ E s k ?_);rw[hl,forIn_cons];refine ad (ad (ad (ad (wpAny_loadPart (k _ _ (X _ _ ho)) (am ?_)))));dsimp only;rw[<-Array.getElem?_toList,e3];exact am (am (am q))
  have mro:∀ {v b},cd.mro.contains v=b->W.mroIn K C v=some b:=λ{v b} q=>by
   unfold W.mroIn;rw[hc,Option.bind_some,if_neg (by rw[ne];decide),q]
  refine⟨⟨oc,od,cd,sl,X _ _ ho,e1,e2,ne⟩,made,?_,looks_mroIn X (mro e5),looks_mroIn X (mro (by rw[em];exact p6 (by decide+kernel))),looks_mroIn X (mro (by rw[em];exact tf (by decide+kernel))),looks_mroIn X (mro (by rw[em];exact tf (by decide+kernel))),looks_specialIn X e7,looks_instIn X e8⟩;intro A Q E s k q;unfold Bind.staticBase;refine ad (hm A _ E s k ?_);rw[hl,forIn_cons];exact ad (ad (ad (made A _ E s k (am (am (am q))))))
 .cases e
variable {rest:List Value}
section
variable {prog:Program}{w:World}{A:Around}{K:W.Frag}{C:Addr}{R:Result->Shared->Prop}{h:Heap}{g:Array GenState}{d:Drawn}{t:Nat}{os:OsState}
def CF (Y:xt (model prog w) h C)(hz:rest.length<=bn)
  (hq:R (.ok (.ret (.ref (h.objs.size+1)))) ⟨(h.push { cls:=.type "tuple",data:=.seq rest.toArray }).push { cls:=.ref C,data:=.fields #[.ref h.objs.size,.none,.none,.none,.bool false,.none] },g,d,t,os⟩):
  codeAny (model prog w) A (.call (.builtin "ValueError.__new__") ⟨.ref C::rest,[]⟩) R ⟨h,g,d,t,os⟩:=by
 obtain⟨⟨oc,od,cd,sl,hC,e1,e2,e4⟩,made,base,self,top,no1,no2,call,typ⟩:=Y;have F:=PySem.F.excBase_ValueError;have here:Looks (model prog w) h (Bind.madeHere "BaseException.__new__" (.ref C)) ():=base.andThen (made.andThen (Looks.of_pure (by simp only[Option.map_some,F.canon,bne_self_eq_false,Bool.false_eq_true,if_false])));refine codeAny_call_builtin_code (Code.quiet_builtin _ F.quiet) ?_;simp only[checkBuiltinCall,F.newKind,F.newSplit,F.newRow]
 repeat(first|simp only[bne_self_eq_false,Bool.false_eq_true,if_false]|lk)
 refine codeAny_builtinAt F.entry ?_;unfold Builtin.«BaseException.__new__»;refine PySem.wpAt_bind ?_;show PySem.wpAt _ _ _ (stack >>= _) _ _ _;refine PySem.wpAt_bind (PySem.wpAt_stack λp below=>PySem.wpAt_of_wpAny ?_);have hends:=F.ends
 wp_walk
 refine PySem.wpAt_of_wpAny ?_;rw[F.owner]
 repeat(first|simp only[Bool.not_true,Bool.false_eq_true,if_false]|lk)
 rw[if_neg (show ¬ (rest.toArray.size>bn) by rw[ge];omega)];unfold newObjAsIs;refine ad (wpAny_alloc (am (ad ?_)));show wpAny _ _ (newObjAsIs _ _ _) _ _ _;unfold newObjAsIs classHasDel;refine ad (wpAny_alloc (ad (ad (wpAny_load (sK _ (sK _ hC)) (am ?_)))));rw[e2];refine am (am ?_);show R _ _;rw[Heap.size_push];exact hq
def Dg {fI:Addr}(X:K.In h)(hz:rest.length<=bn)(hm:bU K C=true)(hi:W.findIn K (.ref C) "__init__"=some (some (.ref fI))) (hf:W.typeIn K (.ref fI)=some (.type "function"))
  (hq:codeAny (model prog w) (A.under (.builtin "type.__call__" ⟨.ref C::rest,[]⟩)) (.call (.ref fI) ⟨.ref (h.objs.size+1)::rest,[]⟩) (InitBack (h.objs.size+1) R)
   ⟨(h.push { cls:=.type "tuple",data:=.seq rest.toArray }).push { cls:=.ref C,data:=.fields #[.ref h.objs.size,.none,.none,.none,.bool false,.none] },g,d,t,os⟩):
  codeAny (model prog w) A (.call (.ref C) ⟨rest,[]⟩) R ⟨h,g,d,t,os⟩:=by
 have Y:=lT (M:=model prog w) X hm;have Y':=Y;obtain⟨⟨oc,od,cd,sl,hC,e1,e2,e4⟩,made,base,self,top,no1,no2,call,typ⟩:=Y;refine codeAny_of_tree ?_;show wpAny _ _ (callAny (.ref C) _) _ _ _;refine nd_load hC ?_;show wpAny _ _ (callAny.viaDunder (.ref C) _) _ _ _;unfold callAny.viaDunder;refine ad (call.at ?_);dsimp only;rw[tc_bind];refine ad (am (ad (am ?_)));refine am (a:=Fin.again (.call (.builtin "type.__call__") ⟨.ref C::rest,[]⟩)) (And.intro rfl ?_);refine codeAny_call_builtin_at (Code.quiet_builtin _ (by decide+kernel)) entry_typeCall (check_slot tc_kind tc_split typ (tc_args _ _ _) ?_);unfold Builtin.«type.__call__»;have hmr:Looks (model prog w) h (mroOf (.ref C)) cd.mro:=((Looks.ld (part:=none) hC).andThen .now).andThen .now
 repeat(first|simp only[e4,Bool.false_eq_true,if_false]|with_reducible refine wpAny_call ?_|lk)
 refine CF Y' hz ?_;have k:∀ b o,h.get? b=some o->((h.push { cls:=.type "tuple",data:=.seq rest.toArray }).push { cls:=.ref C,data:=.fields #[.ref h.objs.size,.none,.none,.none,.bool false,.none] }).get? b=some o:=λb o e=>sK _ (sK _ e)
 have hx:((h.push { cls:=.type "tuple",data:=.seq rest.toArray }).push { cls:=.ref C,data:=.fields #[.ref h.objs.size,.none,.none,.none,.bool false,.none] }).get? (h.objs.size+1)=some { cls:=.ref C,data:=.fields #[.ref h.objs.size,.none,.none,.none,.bool false,.none] }:=by heap_get
 have t1:Looks (model prog w) ((h.push { cls:=.type "tuple",data:=.seq rest.toArray }).push { cls:=.ref C,data:=.fields #[.ref h.objs.size,.none,.none,.none,.bool false,.none] }) (typeOf (.ref (h.objs.size+1))) (.ref C):=(Looks.ld hx).andThen .now;have s1:=self.keeps k;have i1:=(looks_findIn (M:=model prog w) X hi).keeps k;have b1:=(bind_fn (M:=model prog w) X (.ref (h.objs.size+1)) hf).keeps k;unfold isInstance callSpecial? specialOf
 repeat(first|with_reducible refine wpAny_call ?_|lk)
 refine codeAny_mono hq λr s' z=>?_
 rcases r with e|(v|_|_|_)<;>first|exact z|exact z.elim|skip
 obtain⟨rfl,z⟩:=z;exact am (am z)
def AG (X:K.In h)(hz:rest.length<=bn)(hm:bU K C=true)(hi:W.findIn K (.ref C) "__init__"=some (some (.builtin "ValueError.__init__")))
  (hq:codeAny (model prog w) (A.under (.builtin "type.__call__" ⟨.ref C::rest,[]⟩)) (.call (.builtin "ValueError.__init__") ⟨.ref (h.objs.size+1)::rest,[]⟩) (InitBack (h.objs.size+1) R)
   ⟨(h.push { cls:=.type "tuple",data:=.seq rest.toArray }).push { cls:=.ref C,data:=.fields #[.ref h.objs.size,.none,.none,.none,.bool false,.none] },g,d,t,os⟩):
  codeAny (model prog w) A (.call (.ref C) ⟨rest,[]⟩) R ⟨h,g,d,t,os⟩:=by
 have Y:=lT (M:=model prog w) X hm;have Y':=Y;obtain⟨⟨oc,od,cd,sl,hC,e1,e2,e4⟩,made,base,self,top,no1,no2,call,typ⟩:=Y;refine codeAny_of_tree ?_;show wpAny _ _ (callAny (.ref C) _) _ _ _;refine nd_load hC ?_;show wpAny _ _ (callAny.viaDunder (.ref C) _) _ _ _;unfold callAny.viaDunder;refine ad (call.at ?_);dsimp only;rw[tc_bind];refine ad (am (ad (am ?_)));refine am (a:=Fin.again (.call (.builtin "type.__call__") ⟨.ref C::rest,[]⟩)) (And.intro rfl ?_);refine codeAny_call_builtin_at (Code.quiet_builtin _ (by decide+kernel)) entry_typeCall (check_slot tc_kind tc_split typ (tc_args _ _ _) ?_);unfold Builtin.«type.__call__»;have hmr:Looks (model prog w) h (mroOf (.ref C)) cd.mro:=((Looks.ld (part:=none) hC).andThen .now).andThen .now
 repeat(first|simp only[e4,Bool.false_eq_true,if_false]|with_reducible refine wpAny_call ?_|lk)
 refine CF Y' hz ?_;have k:∀ b o,h.get? b=some o->((h.push { cls:=.type "tuple",data:=.seq rest.toArray }).push { cls:=.ref C,data:=.fields #[.ref h.objs.size,.none,.none,.none,.bool false,.none] }).get? b=some o:=λb o e=>sK _ (sK _ e)
 have hx:((h.push { cls:=.type "tuple",data:=.seq rest.toArray }).push { cls:=.ref C,data:=.fields #[.ref h.objs.size,.none,.none,.none,.bool false,.none] }).get? (h.objs.size+1)=some { cls:=.ref C,data:=.fields #[.ref h.objs.size,.none,.none,.none,.bool false,.none] }:=by heap_get
 have t1:Looks (model prog w) ((h.push { cls:=.type "tuple",data:=.seq rest.toArray }).push { cls:=.ref C,data:=.fields #[.ref h.objs.size,.none,.none,.none,.bool false,.none] }) (typeOf (.ref (h.objs.size+1))) (.ref C):=(Looks.ld hx).andThen .now;have s1:=self.keeps k;have i1:=(looks_findIn (M:=model prog w) X hi).keeps k;have b1:Looks (model prog w) ((h.push { cls:=.type "tuple",data:=.seq rest.toArray }).push { cls:=.ref C,data:=.fields #[.ref h.objs.size,.none,.none,.none,.bool false,.none] }) (bindSpecial (.builtin "ValueError.__init__") (.ref (h.objs.size+1))) (.builtin "ValueError.__init__",[.ref (h.objs.size+1)]):=Looks.of_pure (PySem.F.excCall_ValueError.init.bind _);unfold isInstance callSpecial? specialOf
 repeat(first|with_reducible refine wpAny_call ?_|lk)
 refine codeAny_mono hq λr s' z=>?_
 rcases r with e|(v|_|_|_)<;>first|exact z|exact z.elim|skip
 obtain⟨rfl,z⟩:=z;exact am (am z)
end
end L2
namespace L2
open PySem PySem.Spec PySem.W PyProof.Rows
abbrev bG (e:Addr)(h h':Heap):Prop:=∀ oe vs,h.get? e=some oe->oe.data=.fields vs->∃ vs',h'.get? e=some { oe with data:=.fields vs' }/\vs'.size=vs.size
abbrev DG (as:List Addr)(h h':Heap):Prop:=∀ b o,b ∉ as->h.get? b=some o->h'.get? b=some o
abbrev Aa (h:Heap)(e T:Addr)(fl:Value):Prop:=∃ oe vs oT ts,h.get? e=some oe/\oe.data=.fields vs/\vs[1]? =some (.ref T)/\T≠e/\h.get? T=some oT/\oT.data=.fields ts/\ts[3]? =some fl
def bG.trans {e:Addr}{h h1 h2:Heap}(a:bG e h h1)(b:bG e h1 h2):bG e h h2:=λoe vs x y=>by
 obtain⟨vs1,x1,z1⟩:=a oe vs x y;obtain⟨vs2,x2,z2⟩:=b _ vs1 x1 rfl;exact⟨vs2,x2,z2.trans z1⟩
def bG.same {e:Addr}{h h':Heap}(k:h'.get? e=h.get? e):bG e h h':=λoe vs x y=>⟨vs,by rw[k,x,<-y],rfl⟩
variable {Q:LB}
section
variable {M:Model}{A:Around}{E:LD}{s:Shared}{base:Heap}{env:Env}{outer:List Env}{L e:Addr}
def mi {oe:Obj}{vs:Array Value}{head:Value}{hadNext:Bool}(hfr:A.frames=some (env::outer))(hl:s.heap.FunFrames base (env::outer))(hf:env.frame=some L)
  (he:s.heap.get? e=some oe) (hd:oe.data=.fields vs) (hsz:1<vs.size)
  (q:∀ h' T,s.heap.objs.size<=T->Aa h' e T (rawInt L)->bG e s.heap h'->(∀ b o,b≠e->s.heap.get? b=some o->∃ sl,h'.get? b=some { o with slots:=sl })->DG (e::nv (env::outer)) s.heap h'->Q () { s with heap:=h' }):
  wpAny M A (do let a <-frameOf env;let pl <-entryPlaceOf L hadNext;let b <-EntryCells.newEntry head a .none (rawInt L) .none pl;setField (.ref e) 1 b) Q E s:=by
 have hne:e ∉ nv (env::outer):=λhm=>by
  obtain⟨_,o,ho,hnf⟩:=hl.mem hm;rw[he]at ho;cases ho;exact hnf vs hd
 refine ad (wpAny_frameOf_fun hfr hl hf λh1 s1=>ad (wpAny_entryPlaceOf λpl hpl=>?_));unfold EntryCells.newEntry newFields;refine ad (wpAny_newObj_type ?_ (hpl.sizeOk5 _ _ _ _ _));have e1:h1.get? e=some oe:=(s1.2.1 e hne).trans he;have e2:=sK (h:=h1) { cls:=.type "traceback",dict:=none,data:=.fields ([head,.ref L,.none,rawInt L,.none]++(if pl.isEmpty then sn 6 Value.none else pl)).toArray } e1;have hTe:h1.objs.size≠e:=Nat.ne_of_gt (tz e1);have d3:=Obj.data_mapFields hd (·.setIfInBounds 1 (Value.ref h1.objs.size));have e3:=Heap.get?_update_self (Obj.mapFields (·.setIfInBounds 1 (Value.ref h1.objs.size))) e2 (Obj.isFreed_of_fields d3);have t3:=(Heap.get?_update_other (h1.push { cls:=.type "traceback",dict:=none,data:=.fields ([head,.ref L,.none,rawInt L,.none]++(if pl.isEmpty then sn 6 Value.none else pl)).toArray })
  (Obj.mapFields (·.setIfInBounds 1 (Value.ref h1.objs.size))) (Ne.symm hTe)).trans (ul h1 rfl)
 have keep:∀ b o,b≠e->h1.get? b=some o->((h1.push { cls:=.type "traceback",dict:=none,data:=.fields ([head,.ref L,.none,rawInt L,.none]++(if pl.isEmpty then sn 6 Value.none else pl)).toArray }).update e (Obj.mapFields (·.setIfInBounds 1 (Value.ref h1.objs.size)))).get? b=some o:=
  λb o hb hq=>(Heap.get?_update_other _ _ (Ne.symm hb)).trans (sK _ hq)
 refine wpAny_setField e2 hd hsz (q _ h1.objs.size ?_ ?_ ?_ (λb o hb ho=>?_) λb o hb ho=>?_)
 .rw[s1.1];exact pi _
 .refine⟨_,_,_,_,e3,d3,by simp[hsz],hTe,t3,rfl,?_⟩
  first|(simp;done)|(rcases hpl with rfl|⟨_,_,_,_,_,_,_,rfl⟩<;>simp)
 .intro oe' vs' x y;rw[he]at x;cases x;rw[hd]at y;cases y;refine⟨vs.setIfInBounds 1 (.ref h1.objs.size),?_,by simp⟩;rw[e3];obtain⟨c0,d0,dt,sl0⟩:=oe;cases hd
  rfl
 .obtain⟨sl,z⟩:=s1.2.2 b o ho;exact⟨sl,keep b _ hb z⟩
 .exact keep b o (λz=>hb (by rw[z];exact lw)) ((s1.2.1 b λz=>hb (dl _ z)).trans ho)
abbrev EB (n₀:Nat)(ps:LF)(H:Hp)(h:Heap)(e:Addr):Prop:=(∃ oe vs,h.get? e=some oe/\oe.data=.fields vs/\vs[1]? =some Value.none)\/∃ T,n₀<=T/\H T=none/\(∀ p ∈ ps,p.1≠T)/\Aa h e T .none
def Az {n₀:Nat}{ps:LF}{H:Hp}(hfr:A.frames=some (env::outer))(hl:s.heap.FunFrames base (env::outer))(hf:env.frame=some L)(sf:EB n₀ ps H s.heap e)(h0:n₀<=s.heap.objs.size)(hps:∀ p ∈ ps,p.1<s.heap.objs.size)
  (q:∀ h' T T0,s.heap.objs.size<=T->n₀<=T0->(H T0=none\/s.heap.objs.size<=T0)->(∀ p ∈ ps,p.1≠T0)->(∀ o,s.heap.get? T0=some o->∃ ts,o.data=.fields ts)->Aa h' e T (rawInt L)->bG e s.heap h'->h'.FunFrames base (env::outer)->(∀ b o,b≠e->b≠T0->s.heap.get? b=some o->∃ sl,h'.get? b=some { o with slots:=sl })->DG (e::T0::nv (env::outer)) s.heap h'->(∀ b o,s.heap.get? b=some o->∃ o',h'.get? b=some o')->Q () { s with heap:=h' }):
  wpAny M A (noteFrame (.ref e) env) Q E s:=by
 have fun_of:∀ {h':Heap}{as:List Addr},(∀ b ∈ as,∀ o,s.heap.get? b=some o->∃ vs,o.data=.fields vs)->(∀ b o,b ∉ as->s.heap.get? b=some o->∃ sl,h'.get? b=some { o with slots:=sl })->h'.FunFrames base (env::outer):=
  λ{h' as} ha k=>hl.of_keeps λb o ho hnf=>by
   by_cases hb:b ∈ as
   .obtain⟨vs,z⟩:=ha b hb o ho;exact absurd z (hnf vs)
   .obtain⟨sl,z⟩:=k b o hb ho;exact⟨_,z,rfl⟩
 unfold noteFrame;simp only[hf];rcases sf with⟨oe,vs,he,hd,h1⟩|⟨T0,hT0,hH0,hp0,oe,vs,oT,ts,he,hd,h1,hTe,hT,hdT,h3⟩
 .skip
  refine ad (ap he hd h1 ?_);rw[if_neg (by decide)];refine mi hfr hl hf he hd (Array.getElem?_eq_some_iff.mp h1).1 λh' T hT st fo sl sy=>?_
  refine q h' T s.heap.objs.size hT h0 (.inr (pi _)) (λp hp=>pc (hps p hp)) (λo z=>absurd (tz z) (Nat.lt_irrefl _)) st fo ?_ (λb o hb _ ho=>sl b o hb ho) (λb o hb ho=>sy b o (λz=>hb ?_) ho) λb o ho=>?_
  .refine fun_of (as:=[e]) (λb hb o ho=>?_) λb o hb ho=>sl b o (by simpa using hb) ho
   obtain rfl:b=e:=by simpa using hb
   rw[he]at ho;cases ho;exact⟨vs,hd⟩
  .rcases mo.mp z with z|z
   .exact mo.mpr (.inl z)
   .exact dl _ (dl _ z)
  .by_cases hb:b=e
   .subst hb;rw[he]at ho;cases ho;obtain⟨vs',z,_⟩:=fo _ _ he hd;exact⟨_,z⟩
   .obtain⟨sl',z⟩:=sl b o hb ho;exact⟨_,z⟩
 .refine ad (ap he hd h1 ?_);rw[if_pos (show(Value.ref T0 != Value.none)=true from by simp)];refine ad (ap hT hdT h3 ?_);rw[if_neg (show ¬ ((Value.none ==rawInt L)=true) from by simp[rawInt])];refine ad (wpAny_setField hT hdT (Array.getElem?_eq_some_iff.mp h3).1 ?_);have other:∀ b,b≠T0->(s.heap.update T0 (Obj.mapFields (·.setIfInBounds 3 Value.none))).get? b=s.heap.get? b:=λb hb=>Heap.get?_update_other _ _ (Ne.symm hb)
  have self':=Heap.get?_update_self (Obj.mapFields (·.setIfInBounds 3 Value.none)) hT (Obj.isFreed_of_fields (Obj.data_mapFields hdT _));have rec':∀ b o,s.heap.get? b=some o->(∀ vs,o.data≠.fields vs)->b≠T0:=λb o hb hnf z=>by
   rw[z,hT]at hb;cases hb;exact hnf ts hdT
  refine mi (base:=base) hfr (hl.of_keeps λb o hb hnf=>⟨o,(other b (rec' b o hb hnf)).trans hb,rfl⟩) hf ((other e (Ne.symm hTe)).trans he) hd (Array.getElem?_eq_some_iff.mp h1).1 λh' T hTn st fo sl sy=>?_
  have hTn':s.heap.objs.size<=T:=by
   have z:(s.heap.update T0 (Obj.mapFields (·.setIfInBounds 3 Value.none))).objs.size<=T:=hTn
   rwa [Heap.size_after_update]at z
  refine q h' T T0 hTn' hT0 (.inl hH0) hp0 (λo z=>by rw[hT]at z;cases z;exact⟨ts,hdT⟩) st (bG.trans (bG.same (other e (Ne.symm hTe))) fo) ?_ (λb o hb hb0 ho=>sl b o hb ((other b hb0).trans ho)) (λb o hb ho=>?_) λb o ho=>?_
  .refine fun_of (as:=[e,T0]) (λb hb o ho=>?_) λb o hb ho=>sl b o (λz=>hb (by simp[z])) ((other b λz=>hb (by simp[z])).trans ho)
   rcases mo.mp hb with hb|hb
   .subst hb;rw[he]at ho;cases ho;exact⟨vs,hd⟩
   .obtain rfl:b=T0:=by simpa using hb
    rw[hT]at ho;cases ho;exact⟨ts,hdT⟩
  .have n1:b≠e:=λz=>hb (by simp[z])
   have n2:b≠T0:=λz=>hb (by simp[z])
   refine sy b o (λz=>hb ?_) ((other b n2).trans ho);rcases mo.mp z with z|z
   .exact mo.mpr (.inl z)
   .exact dl _ (dl _ z)
  .by_cases hb:b=e
   .subst hb;obtain⟨vs',z,_⟩:=fo _ _ ((other b (Ne.symm hTe)).trans he) hd;exact⟨_,z⟩
   .by_cases hb0:b=T0
    .subst hb0;obtain⟨sl',z⟩:=sl b _ hb self';exact⟨_,z⟩
    .obtain⟨sl',z⟩:=sl b o hb ((other b hb0).trans ho);exact⟨_,z⟩
def uz {T:Addr}{fl:Value}(st:Aa s.heap e T fl)
  (q:∀ h',Aa h' e T .none->(∀ b,b≠T->h'.get? b=s.heap.get? b)->(∃ o,s.heap.get? T=some o)->(∃ o,h'.get? T=some o)->(∃ oT ts,h'.get? T=some oT/\oT.data=.fields ts)->Q () { s with heap:=h' }):wpAny M A (setFlight (.ref e) none) Q E s:=by
 obtain⟨oe,vs,oT,ts,he,hd,h1,hTe,hT,hdT,h3⟩:=st;have hz:3<ts.size:=(Array.getElem?_eq_some_iff.mp h3).1;have other:∀ b,b≠T->(s.heap.update T (Obj.mapFields (·.setIfInBounds 3 ((none:Option Addr).elim Value.none λf=>rawInt f)))).get? b=s.heap.get? b:=λb hb=>Heap.get?_update_other _ _ (Ne.symm hb)
 have self':=Heap.get?_update_self (Obj.mapFields (·.setIfInBounds 3 ((none:Option Addr).elim Value.none λf=>rawInt f))) hT (Obj.isFreed_of_fields (Obj.data_mapFields hdT _));unfold setFlight;refine ad (ap he hd h1 ?_);rw[if_pos (show(Value.ref T != Value.none)=true from by simp)];refine wpAny_setField hT hdT hz (q _ ⟨oe,vs,_,_,(other e (Ne.symm hTe)).trans he,hd,h1,hTe,self',Obj.data_mapFields hdT _,by simp[hz]⟩ other ⟨_,hT⟩ ⟨_,self'⟩ ⟨_,_,self',Obj.data_mapFields hdT _⟩)
end
variable {A:Around}
section
variable {X:Cx}{U:St}{H:Hp}{s:Shared}{e C:Addr}{dx:Option Addr}{fs:List (Str×V)}{h':Heap}
def Inv.xw {Y:LF}(I:Inv X Y U H s):Inv X [] U H s:=I.oj λ_ z=>absurd z (by simp)
def Inv.noted {T0:Addr}{as:List Addr}(I:Inv X [] U H s)(hpn:∀ p ∈ X.pn,p.1≠T0) (he:H e=some (.exc C dx fs false)) (has:as=nv X.stack)
  (hT:X.s₀.heap.objs.size<=T0) (hT0:H T0=none\/s.heap.objs.size<=T0) (hTd:∀ o,s.heap.get? T0=some o->∃ ts,o.data=.fields ts)
  (fo:bG e s.heap h') (sl:∀ b o,b≠e->b≠T0->s.heap.get? b=some o->∃ sl,h'.get? b=some { o with slots:=sl }) (sy:DG (e::T0::as) s.heap h') (th:∀ b o,s.heap.get? b=some o->∃ o',h'.get? b=some o'):
  Inv X [] U H { s with heap:=h' }:=by
 subst has;obtain⟨⟨vs,ho,hsz,_⟩,z⟩:=id (I.hok e _ he);have hH0:H T0=none:=by
  rcases hT0 with z|z
  .exact z
  .exact I.hok.fresh z
 have nT:∀ {b:Addr}{o:Obj},s.heap.get? b=some o->(∀ vs,o.data≠.fields vs)->b≠T0:=λ{b o} hb hn z=>by
  subst z;obtain⟨ts,q⟩:=hTd _ hb;exact hn ts q
 have jy:∀ b o,H b=none->b≠T0->b ∉ nv X.stack->s.heap.get? b=some o->h'.get? b=some o:=λb o hb h0 hf hq=>sy b o (λm=>by
  rcases mo.mp m with m|m
  .rw[m,he]at hb;cases hb
  .rcases mo.mp m with m|m
   .exact h0 m
   .exact hf m) hq
 have C8:∀ a u,H a=some u->a≠e->∀ o,s.heap.get? a=some o->h'.get? a=some o:=λa u ha ne o hq=>sy a o (λm=>by
  rcases mo.mp m with m|m
  .exact ne m
  .rcases mo.mp m with m|m
   .rw[m,hH0]at ha;cases ha
   .rw[I.mW a m]at ha;cases ha) hq
 refine I.step (g':=s.gens) (t':=s.toks) (d':=s.drawn) (ch:=[T0]) (h':=h') (λb hb=>?_) (λb o hL hfs hch hq hn=>?_) (λb o hL hfs hch hq hn=>?_) (λb o _ _ hn=>hn) (λb o _ hq=>th b o hq) (λ_ _ q=>q) (λ_ _ _ q=>q) (λb ps q=>⟨#[],by rw[q];simp⟩) (λm hm=>?_) (λa u ha=>?_) I.bare
 .obtain rfl:b=T0:=by simpa using hb
  refine⟨.inr hT,?_,λx c hc z=>?_,λp hp=>hpn p (by simpa using hp)⟩
  .obtain⟨m,⟨o,es,ep,ho',hd,_⟩,_⟩:=I.loc;intro z;exact nT ho' (λvs q=>by rw[hd]at q;cases q) z.symm
  .obtain⟨v,o,ho',hd⟩:=I.cell x c hc;exact nT ho' (λvs q=>by rw[hd]at q;cases q) z
 .refine jy b o hn (by simpa using hch) (λm=>?_) hq;rcases mo.mp (I.ik b m) with z|z
  .exact hL z
  .exact hfs z
 .exact sl b o (λz=>by rw[z,he]at hn;cases hn) (by simpa using hch) hq
 .obtain⟨o,es,ep,ho',hd,r⟩:=hm;have n1:X.env.locals≠e:=λz=>by have:=I.free;rw[z,he]at this;cases this
  obtain⟨sl',q⟩:=sl _ o n1 (nT ho' λvs q=>by rw[hd]at q;cases q) ho';exact⟨_,es,ep,q,hd,r⟩
 .by_cases hae:a=e
  .subst hae;rw[he]at ha;cases ha;obtain⟨vs',q,hz⟩:=fo _ vs ho rfl;refine⟨⟨vs',q,hz.trans hsz,λy=>by cases y⟩,?_⟩;rcases z with z|⟨d,ed,d1,z1,ne,mA,⟨od,es,ep,e2,c⟩,r⟩
   .exact .inl z
   .exact .inr ⟨d,ed,d1,z1,ne,mA,⟨od,es,ep,C8 d _ d1 ne _ e2,c⟩,r⟩
  .refine(I.hok a u ha).jy (λb o hb hq=>?_) (λ_ q=>q) λ_ _ q=>q
   rcases hb with hb|hb
   .subst hb;exact C8 b u ha hae o hq
   .refine C8 b _ hb (λz=>?_) o hq;rw[z,he]at hb;cases hb
abbrev zx (P:Program)(w:World):qT:=λouter H s E u s'=>∃ (e:Addr) (H':Hp) (C:Addr) (dx:Option Addr) (fs:List (Str×V)) (T:Addr),u=.ref e/\s'.os=s.os/\AllBare s'.gens/\Un (nv outer) [] H H' s.heap s'.heap/\fR P w H' s'.heap/\
 H' e=some (.exc C dx fs false)/\s.heap.objs.size<=T/\H' T=none/\Aa s'.heap e T .none/\E e H'
abbrev F6 (X:Cx)(E:St->XK):Prop:=∀ (U:St) (H:Hp) (s:Shared) (e C:Addr) (dx:Option Addr) (fs:List (Str×V)),Inv X [] U H s->EB X.s₀.heap.objs.size X.pn H s.heap e->H e=some (.exc C dx fs false)->E U e H->X.xe (.ref e) s
def lN {E:St->XK}(x:F6 X E):Passes (zx X.prog X.w) X E:=by
 intro Y U H s u s' I h;obtain⟨e,H',C,dx,fs,T,rfl,os,bare,un,hok,he,hT,hT0,st,q⟩:=h;have J:Inv X [] U H' s':=Inv.xV (ch:=[]) I.xw os un hok bare (λb z=>absurd z (by simp));exact x U H' s' e C dx fs J (.inr ⟨T,Nat.le_trans I.sz hT,hT0,λp hp=>pc (nw (tz (I.pin p (mem_append_left _ hp)).1) hT),st⟩) he q
def lY {M:Model}{E E':LD}{Q:Shared->Prop}(I:Inv X [] U H s)(hs:X.stack=X.env::X.outer)(hf:X.env.frame=some X.env.locals)(sf:EB X.s₀.heap.objs.size X.pn H s.heap e)(he:H e=some (.exc C dx fs false))
  (q:∀ s' T,Inv X [] U H s'->s'.os=s.os->X.s₀.heap.objs.size<=T->H T=none->(∀ p ∈ X.pn,p.1≠T)->Aa s'.heap e T .none->Q s'):
  wpAny M X.A (noteFrame (.ref e) X.env) (λ_ s1=>wpAny M X.A (setFlight (.ref e) none) (λ_ s2=>Q s2) E s1) E' s:=by
 have hl:s.heap.FunFrames X.base (X.env::X.outer):=hs▸I.stack;refine Az (by rw[<-hs];exact I.ok.frames) hl hf sf I.sz (λp hp=>tz (I.pin p (mem_append_left _ hp)).1) λh1 T T0 hT hT0 hH0 hp0 hTd st fo fF sl sy th=>?_
 have I1:=I.noted (T0:=T0) (as:=nv (X.env::X.outer)) (h':=h1) hp0 he (by rw[hs]) hT0 hH0 hTd fo sl sy th;have hHT:H T=none:=I.hok.fresh hT;have hpT:∀ p ∈ X.pn,p.1≠T:=λp hp=>pc (nw (tz (I.pin p (mem_append_left _ hp)).1) hT)
 refine uz (s:={ s with heap:=h1 }) st λh2 oy oth _ th2 rec2=>?_
 have I2:Inv X [] U H { s with heap:=h2 }:=by
  refine Inv.turned (s:={ s with heap:=h1 }) (it:=T) (h':=h2) (t':=s.toks) I1 (λb o hb hq=>(oth b hb).trans hq) hHT ?_ (.inr (Nat.le_trans I.sz hT)) (λx c hc z=>?_) λp hp=>hpT p (by simpa using hp)
  .exact λz=>absurd (nw I.lt hT) (by rw[z];exact Nat.lt_irrefl _)
  .obtain⟨v,o,ho,_⟩:=I.cell x c hc;exact absurd (nw (tz ho) hT) (by rw[z];exact Nat.lt_irrefl _)
 exact q _ T I2 rfl (Nat.le_trans I.sz hT) hHT hpT oy
def vq {P:Program}{w:World}{K:W.Frag}{mg:LG}{base:Heap}{N:List Str}{qual:Str}{scope:Scope}{f:Addr}{cd:Value}{outer:List Env}{E:XK}:
  F6 (vR (zx P w) P w K mg base N qual scope f cd A outer s H E) (λ_=>E):=by
 intro σ' H' s' e C dx fs I sf he q;show wpAny _ _ (do noteFrame (.ref e) _;setFlight (.ref e) none) _ _ s';refine ad (lY I rfl rfl sf he λs2 T J os hT hH _ st=>?_);exact⟨e,H',C,dx,fs,T,rfl,J.os,J.bare,J.base,J.hok,he,hT,hH,st,q⟩
end
structure Jb (K:W.Frag) (C f:Addr):Prop where
 mks:bU K C=true
 init:W.findIn K (.ref C) "__init__"=some (some (.ref f))
 fn:W.isFn K (.ref f)=true
 kp:W.keepIn K (.ref C)=true
variable {us:List Value}{vs:List V}{pl:Sem Bool}
section
variable {X:Cx}{Y:LF}{U:St}{H:Hp}{s:Shared}{C f:Addr}
def Inv.Cq (us:List Value)(I:Inv X Y U H s):Inv X Y U (upd H (s.heap.objs.size+1) (.exc C none [] true))
  { s with heap:=(s.heap.push { cls:=.type "tuple",data:=.seq us.toArray }).push { cls:=.ref C,data:=.fields #[.ref s.heap.objs.size,.none,.none,.none,.bool false,.none] } }:=by
 have I1:=I.kept (h':=s.heap.push { cls:=.type "tuple",data:=.seq us.toArray }) (t':=s.toks) λb u q=>sK _ q
 refine Inv.laid (s:={ s with heap:=s.heap.push { cls:=.type "tuple",data:=.seq us.toArray } }) (a:=s.heap.objs.size+1) (o:=.exc C none [] true) (t':=s.toks) I1 (λb u q=>sK _ q) (Nat.le_of_eq (Heap.size_push _ _)) ?_;refine⟨⟨#[.ref s.heap.objs.size,.none,.none,.none,.bool false,.none],?_,rfl,λ_=>rfl⟩,.inl ⟨rfl,rfl⟩⟩;have:=ul (s.heap.push { cls:=.type "tuple",data:=.seq us.toArray }) (o:={ cls:=.ref C,data:=.fields #[.ref s.heap.objs.size,.none,.none,.none,.bool false,.none] }) rfl
 rwa [Heap.size_push]at this
variable {CX:qT}{k:Nat}{fd:FuncData}{ps:List Str}{sp:Sp}{dvs:List V}{ds:List Value}{E:St->XK}{x m:Str}{p pos apos:Pos}{e o:Expr}{es:List Expr}{ta:TE}{t:TA}
abbrev xG (C:Addr)(sp:Sp)(dvs:List V)(E:St->XK)(t:TA):TE:=λU H Q=>t U H λvs H1=>vs.length<=1000/\∀ x,H1 x=none->sp (.ref x::(vs++dvs)) (upd H1 x (.exc C none [] true)) (λv H2=>v=.non/\Q (.ref x) H2) (E U)
def mz {Q:VK}(M:Jb X.K C f)(F:cN X.prog X.w X.K X.mg X.base CX k f fd ps sp)(hr:bE (k+1) X.A)(hb:Binds X.K fd ps ds)(hd:Vals dvs ds)
  (hx:Passes CX X E) (hz:us.length<=bn) (I:Inv X Y U H s) (r:Vals vs us)
  (h:∀ x,H x=none->sp (.ref x::(vs++dvs)) (upd H x (.exc C none [] true)) (λv H2=>v=.non/\Q (.ref x) H2) (E U)):
  wpAny (model X.prog X.w) X.A (call (.ref C) us) (EP X Y U Q) X.xe s:=by
 have hq:=h (s.heap.objs.size+1) (I.hok.fresh (Nat.le_succ _));have I2:=Inv.Cq (C:=C) us I;have r2:Vals (V.ref (s.heap.objs.size+1)::(vs++dvs)) (Value.ref (s.heap.objs.size+1)::(us++ds)):=.cons rfl (r.append hd);have hl:(Value.ref (s.heap.objs.size+1)::us++ds).length=ps.length:=by
  have e:=r2.length;rw[F.len _ _ _ _ hq]at e;exact e.symm
 obtain⟨hh,g,d,tk,os⟩:=s;refine wpAny_call (Dg (fI:=f) I.bL hz M.mks M.init (beq_iff_eq.mp M.fn) (codeAny_mono (F.run _ X.stack _ _ ⟨Value.ref (hh.objs.size+1)::us,[]⟩ (Value.ref (hh.objs.size+1)::(us++ds)) _ _ (E U) (hr.make C us [])
  (I2.iy.make C us []) (hb _ (Value.ref (hh.objs.size+1)::us) I2.bL hl) r2 hq) λr s' hq'=>?_))
 cases r with
 |error e=>exact hx Y U _ _ e s' I2 hq'
 |ok fl=>
  cases fl with
  |ret u=>
   obtain⟨v,H',J,rv,ev,q⟩:=I2.after hq';subst ev;obtain rfl:u=Value.none:=rv;exact⟨rfl,.ref _,H',J,rfl,q⟩
  |next=>exact False.elim hq'
  |brk=>exact False.elim hq'
  |cont=>exact False.elim hq'
def xM (M:Jb X.K C f)(F:cN X.prog X.w X.K X.mg X.base CX k f fd ps sp)(hr:bE (k+1) X.A)(hg:Gl X x)(hm:X.mg x=some (.ref C))(hb:Binds X.K fd ps ds)(hd:Vals dvs ds)(hx:Passes CX X E)
  (ha:PA X (e::es) t) (hdb:(x ==("__debug__":Str))=false:=by decide) (he:bm (e::es) X.env=(false,eval e X.env)::bm es X.env:=by rfl) (hpl:(backTo pos (bm es X.env)).any (·.1)=false:=by rfl):
  PE X (.Call (.Name x p) (e::es) [] pos) (xG C sp dvs E t):=by
 intro Y s U H Q I h;refine bv (bt I hg hm ?_ hdb);refine W.callWith_K (h₀:=X.base) I.ok.mod.kin M.kp (aA (ha pos Y s U H _ I h) λus s1 ⟨vs,H1,I1,r,z,q⟩=>⟨I1.bL,?_⟩) he hpl;exact mz M F hr hb hd hx (by rw[nil_append,<-r.length];exact Nat.le_of_lt (cR z)) I1 r q
structure FA (K:W.Frag) (C:Addr):Prop where
 mks:bU K C=true
 init:W.findIn K (.ref C) "__init__"=some (some (.builtin "ValueError.__init__"))
 kp:W.keepIn K (.ref C)=true
 cls:cG K C
abbrev A3 (C:Addr)(t:TA):TE:=λU H Q=>t U H λvs H1=>vs.length=1/\∀ x,H1 x=none->Q (.ref x) (upd H1 x (.exc C none [] true))
def rL {Q:VK}(M:FA X.K C)(I:Inv X Y U H s)(r:Vals vs us)(h1:vs.length=1)(h:∀ x,H x=none->Q (.ref x) (upd H x (.exc C none [] true))):
  wpAny (model X.prog X.w) X.A (call (.ref C) us) (EP X Y U Q) X.xe s:=by
 have hq:=h (s.heap.objs.size+1) (I.hok.fresh (Nat.le_succ _));have I2:=Inv.Cq (C:=C) us I;obtain⟨u,rfl⟩:∃ u,us=[u]:=by
  have e:=r.length;rw[h1]at e
  match us,e with
  | [u],_=>exact⟨u,rfl⟩
 obtain⟨hh,g,d,tk,os⟩:=s;refine wpAny_call (AG I.bL (by rw[sizeLine_eq];exact ol rfl) M.mks M.init (jW (C:=C) (dx:=none) (fs:=[]) (fr:=true) I2 aB M.cls λs' J=>?_));exact⟨rfl,.ref _,_,J,rfl,hq⟩
def xJ (M:FA X.K C)(hg:Gl X x)(hm:X.mg x=some (.ref C))(ha:PA X (e::es) t)(hdb:(x ==("__debug__":Str))=false:=by decide) (he:bm (e::es) X.env=(false,eval e X.env)::bm es X.env:=by rfl) (hpl:(backTo pos (bm es X.env)).any (·.1)=false:=by rfl):
  PE X (.Call (.Name x p) (e::es) [] pos) (A3 C t):=by
 intro Y s U H Q I h;refine bv (bt I hg hm ?_ hdb);refine W.callWith_K (h₀:=X.base) I.ok.mod.kin M.kp (aA (ha pos Y s U H _ I h) λus s1 ⟨vs,H1,I1,r,z,q⟩=>⟨I1.bL,?_⟩) he hpl;exact rL M I1 r z q
structure Kq (K:W.Frag) (B:Addr):Prop where
 ga:W.specialIn K (.ref B) "__getattribute__"=some (some (.builtin "type.__getattribute__"))
 rd:W.readsIn K B (.type "type")=true
 fi:W.findCls K (.ref B) (.type "type") "__init__"=some (.val (.builtin "ValueError.__init__"))
abbrev JS (K:W.Frag)(t:TA):TE:=λU H Q=>t U H λvs H1=>∃ a C dx fs fr v,vs=[.ref a,v]/\H1 a=some (.exc C dx fs fr)/\cG K C/\Q .non H1
def En {B:Addr}{np:Pos}(b:Kq X.K B)(hg:Gl X x)(hm:X.mg x=some (.ref B))(ha:PA X (e::es) t)(hdb:(x ==("__debug__":Str))=false:=by decide)
  (hst:bm (e::es) X.env=(false,eval e X.env)::bm es X.env:=by rfl) (hpl:(backTo pos (bm es X.env)).any (·.1)=false:=by rfl)
  (ht:eval (.Call (.Attribute (.Name x np) "__init__" apos) (e::es) [] pos) X.env=(do
   let ov <-eval (.Name x np) X.env
   standAt apos.atName
   let(f,first) <-holding [ov] (getMethod ov "__init__" pl)
   callWith pos f first (backTo pos (bm (e::es) X.env)) (backToKw pos (keywordEach [] X.env))):=by rfl):
  PE X (.Call (.Attribute (.Name x np) "__init__" apos) (e::es) [] pos) (JS X.K t):=by
 intro Y s U H Q I h;refine W.methodCall_KW (pl:=pl) (bt I hg hm ?_ hdb) ht;refine W.method_cls I.bL b.ga (W.cls_value I.bL b.rd b.fi (by decide+kernel) ?_);refine PyProof.Rows.callWith_builtin1 (aA (ha pos Y _ U H _ (I.tok _) h) λus s1 ⟨vs,H1,I1,r,a,C,dx,fs,fr,v,ev,ea,c,q⟩=>?_) hst hpl;subst ev;cases r with
 |cons r1 r2=>
  cases r2 with
  |cons r3 r4=>
   cases r4;cases r1;exact sA I1 ea c λs' J=>⟨.non,H1,J,rfl,q⟩
structure Kx (K:W.Frag) (C f:Addr):Prop where
 ga:W.specialIn K (.ref C) "__getattribute__"=some (some (.builtin "type.__getattribute__"))
 rd:W.readsIn K C (.type "type")=true
 fi:W.findCls K (.ref C) (.type "type") "__init__"=some (.val (.ref f))
 kp:W.keepIn K (.ref f)=true
def EI {np:Pos}(b:Kx X.K C f)(F:cN X.prog X.w X.K X.mg X.base CX k f fd ps sp)(hr:bE k X.A)(hg:Gl X x)(hm:X.mg x=some (.ref C))(hb:Binds X.K fd ps ds)(hd:Vals dvs ds)(hx:Passes CX X E)(ha:PA X (e::es) t)(hdb:(x ==("__debug__":Str))=false)
  (hst:bm (e::es) X.env=(false,eval e X.env)::bm es X.env) (hpl:(backTo pos (bm es X.env)).any (·.1)=false)
  (ht:eval (.Call (.Attribute (.Name x np) "__init__" apos) (e::es) [] pos) X.env=(do
   let ov <-eval (.Name x np) X.env
   standAt apos.atName
   let(f,first) <-holding [ov] (getMethod ov "__init__" pl)
   callWith pos f first (backTo pos (bm (e::es) X.env)) (backToKw pos (keywordEach [] X.env)))):
  PE X (.Call (.Attribute (.Name x np) "__init__" apos) (e::es) [] pos) (xg sp dvs E t):=by
 intro Y s U H Q I h;refine W.methodCall_KW (pl:=pl) (bt I hg hm ?_ hdb) ht;refine W.method_cls I.bL b.ga (W.cls_value I.bL b.rd b.fi rfl ?_);refine W.callWith_K (h₀:=X.base) (first:=[]) I.ok.mod.kin b.kp (aA (ha pos Y _ U H _ (I.tok _) h) λus s1 ⟨vs,H1,I1,r,q⟩=>⟨I1.bL,?_⟩) hst hpl;exact jS F hr hb hd hx I1 r q
end
section
open PySem.Builtin PySem.Builtin.ObjectAttr
variable {prog:Program}{w:World}{A:Around}{E:LD}{s:Shared}{K:W.Frag}{x C:Addr}{ox:Obj}{odo:Option Obj}
structure yW (K:W.Frag) (C:Addr):Prop where
 ha:W.findIn K (.ref C) "__class__"=some (some (.builtin "object.__class__"))
 hn:W.specialIn K (.builtin "object.__class__") "__get__"=some (some (.builtin "getset_descriptor.__get__"))
 htk:W.takesIn K (.builtin "object.__class__")=some true
def Co {Q:Option Value->Shared->Prop}(X:K.In s.heap)(I:W.InstAt s.heap x ox C odo)(c:cG K C)(z:yW K C)(hfo:W.findObj K C odo "__class__"=some (.bind (.builtin "getset_descriptor.__get__") (.builtin "object.__class__")))
  (h:Q (some (.ref C)) { s with toks:=s.toks+1 }):wpAny (model prog w) A (getAttr? (.ref x) "__class__") Q E s:=by
 obtain⟨hp,g,d,t,os⟩:=s;have L0:=I.type (M:=model prog w);have L1:=looks_findIn (M:=model prog w) X c.ga;have L2':=looks_findIn (M:=model prog w) X c.gn;have L3:=looks_find (M:=model prog w) X I hfo;have L4:Looks (model prog w) hp (isInstance (.ref x) (.type "BaseException")) true:=I.type.andThen (looks_mroIn X (c.sub (by decide+kernel)));unfold getAttr? getAttrBy? getAttrBy;refine ad (wpAny_mkText (ad (wpAny_attempt (bd (ad (L0.at (ad (L1.at ?_))))))));have e1:(Value.builtin "BaseException.__getattribute__" ==Value.builtin "object.__getattribute__")=false:=by decide+kernel
 dsimp only;rw[e1,Bool.and_false];show wpAny _ _ (getAttrByItsOwn _ _ _ _ _ _) _ _ _;unfold getAttrByItsOwn hookBefore;refine ad (L2'.at ?_);refine ad (wpAny_attempt (bd ?_));unfold callGetattribute;show wpAny _ _ (boundAndCalled _ _ _) _ _ _;unfold boundAndCalled;rw[PySem.F.attr_ValueError.ga.bind];refine ad (am (wpAny_call (codeAny_call_builtin PySem.F.attr_ValueError.ga.plain PySem.F.entry_bexc_ga ?_)));refine @check_slot (model prog w) _ _ _ "BaseException.__getattribute__" "BaseException" "__getattribute__" (.ref x) [.str "__class__" t] [] _ pD mL L4 (PySem.F.args_bexc_ga (.ref x) (.str "__class__" t)) ?_;unfold Builtin.«object.__getattribute__»;refine ad (am (ad (am (ad (L0.at (ad (L3.at ?_)))))));show wpAny _ _ (holding [_] (call _ [_,.ref x,.ref C]) >>= ret) _ _ _;refine ad (bd (wpAny_call (class_get (s:=⟨hp,g,d,t+1,os⟩) (ox:=ox) (od:=odo) X I (c.sub (by decide+kernel)) ?_)));refine am ?_;show wpAny _ _ (handedOut (.ref C)) _ _ _;exact handed_on rfl (am h)
def zR (c:cG K C)(z:yW K C):W.findObj K C odo "__class__"=some (.bind (.builtin "getset_descriptor.__get__") (.builtin "object.__class__")):=by
 obtain⟨cd,hc,_⟩:=W.any_some c.hd;unfold W.findObj;rw[hc,Option.bind_some,z.ha,Option.bind_some];simp[z.hn,z.htk]
def zC (c:cG K C)(z:yW K C):W.KitX K (.ref x) (.ref C) (λh=>W.InstAt h x ox C odo) where
 ty:=λ_ _ _ I=>I.type
 it:=λ_ _ X _=>by
  obtain⟨cdD,hcD,_⟩:=W.any_some c.hd;unfold W.clsIn at hcD
  split at hcD
  .rename_i c' d' cd' sl' ho;intro A' Q' E' s' k q;unfold isType loadHead;exact ad (wpAny_loadPart (k _ _ (X _ _ ho)) (am q))
  .cases hcD
 ne:=λh tp dd its n sl X htp=>by
  obtain⟨cdD,hcD,_⟩:=W.any_some c.hd;refine Bool.eq_false_iff.mpr λq=>?_
  have e:C=tp:=Value.ref.inj (beq_iff_eq.mp q);subst e;unfold W.clsIn at hcD
  split at hcD
  .rename_i c' d' cd' sl' ho;have z:=(X _ _ ho).symm.trans htp;cases z
  .cases hcD
 ca:=λX I k=>Co X I c z (zR c z) k
end
section
variable {X:Cx}{Y:LF}{U:St}{H:Hp}{s:Shared}{a C:Addr}{dx:Option Addr}{fs:List (Str×V)}{fr:Bool}
def yM (I:Inv X Y U H s)(e:H a=some (.exc C dx fs fr)):∃ ox odo,W.InstAt s.heap a ox C odo:=by
 obtain⟨⟨vs,ho,_⟩,z⟩:=id (I.hok a _ e);rcases z with⟨rfl,_⟩|⟨d,rfl,_,_,_,mA,⟨od,es,ep,hod,_⟩,_⟩
 .exact⟨_,none,ho,rfl,rfl,True.intro⟩
 .exact⟨_,some od,ho,rfl,rfl,hod⟩
def wX {E:LD}{Q:LD}{cv:Value}{b:Bool}(I:Inv X Y U H s)(e:H a=some (.exc C dx fs fr))(c:cG X.K C)(z:yW X.K C)(k:W.kitOne X.K (.ref C) cv=some b)
  (h:∀ tk,Q (.bool b) { s with toks:=tk }):wpAny (model X.prog X.w) A (call (.builtin "isinstance") [.ref a,cv]) Q E s:=by
 obtain⟨ox,odo,J⟩:=yM I e;exact W.kia_one (zC (ox:=ox) (odo:=odo) c z) I.bL J k (λz=>nomatch z) h
end
end L2
namespace L2
open PySem PySem.Spec PySem.W PyProof.Rows
variable {dx:Option Addr}
section
variable {X:Cx}{f:Str}{o value ex:Expr}{ta tv te:TE}{pos pos':Pos}{E:St->XK}
def sD {h:Heap}{a:Addr}{C:Addr}{vs:Array Value}{M:Model}(ho:h.get? a=some { cls:=.ref C,dict:=dx,data:=.fields vs }):W.Looks M h (isType (.ref a)) false:=by
 intro A Q E s k q;unfold isType loadHead;exact ad (wpAny_loadPart (k _ _ ho) (am q))
abbrev FC (K:W.Frag)(E:St->XK)(te:TE):TS:=λD U H=>te U H λv H1=>∃ a C dx fs,v=.ref a/\H1 a=some (.exc C dx fs true)/\cG K C/\E U a (upd H1 a (.exc C dx fs false))
def zy (hx:F6 X E)(hc:X.calm=true)(he:PE X ex te):PS X (.Raise (some ex) none pos) (FC X.K E te):=by
 intro Y s U H D I h;rw[arm_exec_Raise];simp only[evalOpt,Option.map];refine ad (wpAny_standAt ?_);unfold raiseStmt;refine ad (ad (aA (he Y s U H _ I h) λu s1 ⟨y,H1,I1,ry,a,C,dx,fs,ey,ea,c,q⟩=>ad (wpAny_standAt (am ?_))));subst ey;obtain rfl:u=Value.ref a:=ry;obtain⟨⟨vs,ho,hsz,h1⟩,z⟩:=id (I1.hok a _ ea);have h1':=h1 rfl;have hq:X.xe (.ref a) s1:=by
  have J:Inv X [] U (upd H1 a (.exc C dx fs false)) s1:=by
   have J1:=I1.xw.write (x:=a) (e:=a) (o:=.exc C dx fs false) (t':=s1.toks) (h':=s1.heap) (by rw[ea];exact True.intro) (.inl rfl) (λ_ _ _ q=>q) ⟨_,ho⟩ ?_
   .exact J1
   .refine⟨⟨vs,ho,hsz,λy=>by cases y⟩,?_⟩;rcases z with z|⟨d,ed,d1,z1,ne,r⟩
    .exact .inl z
    .exact .inr ⟨d,ed,by rw[ak ne];exact d1,z1,ne,r⟩
  exact hx U _ s1 a C dx fs J (.inl ⟨_,vs,ho,rfl,h1'⟩) aB q
 obtain⟨hp,g,d,tk,os⟩:=s1;have L0:Looks (model X.prog X.w) hp (typeOf (.ref a)) (.ref C):=(Looks.ld ho).andThen .now;have L1:Looks (model X.prog X.w) hp (isType (.ref a)) false:=sD ho;have L2':Looks (model X.prog X.w) hp (isInstance (.ref a) (.type "BaseException")) true:=L0.andThen (looks_mroIn I1.bL (c.sub (by decide+kernel)));have L5:Looks (model X.prog X.w) hp (typeOf (.ref C)) (.type "type"):=looks_typeIn I1.bL c.mt;have tt:(Value.type "type" ==Value.type "type")=true:=by decide
 repeat(first|simp only[Bool.false_eq_true,if_false,if_true,tt]|lk)
 rw[h1'];refine am ?_;rw[if_neg (by decide)];exact am (wpAny_raiseNew_none (I1.ok.hd hc) hq)
end
@[reducible]def Cx.bF (X:Cx) (e:Value):Cx:={ X with A:=X.A.mark (some e),calm:=false,xe:=λ_ _=>False }
variable {xe:LD}{ps:LF}{D:Ends}
section
variable {X:Cx}{Y:LF}{U:St}{H:Hp}{s:Shared}
def Cx.Ok.bF (ok:X.Ok)(e:Value):(X.bF e).Ok:=
 ⟨ok.mod,ok.kind,ok.glob,ok.blt,ok.above,ok.inj,ok.has,ok.cab,(λz=>by cases z),ok.frames,ok.stk,ok.exf,ok.bs,ok.bsz,ok.noex,ok.exfs,ok.js,ok.frf⟩
def Inv.bF (I:Inv X Y U H s)(e:Value):Inv (X.bF e) Y U H s:=⟨I.ok.bF e,I.os,I.bare,I.base,I.loc,I.cell,I.free,I.freeC,I.pin,I.hok,I.len⟩
def Inv.jN {e:Value}(ok:X.Ok)(I:Inv (X.bF e) Y U H s):Inv X Y U H s:=⟨ok,I.os,I.bare,I.base,I.loc,I.cell,I.free,I.freeC,I.pin,I.hok,I.len⟩
def fg {M:Model}{A:Around}{E:LD}{Q:LB}{i:Nat}{n:Str}{pos:Pos}(I:Inv X Y U H s)(hN:X.N.Nodup)(hi:X.N[i]? =some n)(hn:X.env.scope.names.lookup n=some .local)
  (h:∀ s',Inv X Y (U.set i none) H s'->Q () s'):wpAny M A (do bindName X.env n .none;unbindBehindTheSuite X.env n pos) Q E s:=by
 have hcls:(X.env.scope.kind ==.class||(X.env.scope.kind ==.module&&X.env.locals != X.env.globals))=false:=by rw[I.ok.kind];rfl
 refine ad (wpAny_bindName (bp I hN hi (.inl hn) (v:=.non) rfl (λs1 I1=>?_) (.inr hn)));obtain⟨m,hm,hl⟩:=I1.loc;unfold unbindBehindTheSuite;refine wpAny_onRaise ?_;unfold unbindName;refine ad (wpAny_point (ad ?_));unfold deleteName;have hk:X.env.kindOf n=some .local:=hn;have hiσ:i<U.length:=by rw[I.len];exact(sw.mp hi).1
 have hmn:(m n).isSome=true:=by
  obtain⟨u,_,l⟩:=hl i n .non hi (by rw[getElem?_set_self hiσ]) (.inl hn);rcases l with⟨_,q⟩|⟨q,_⟩
  .rw[q];rfl
  .rcases q with q|q<;>(rw[hk]at q;cases q)
 simp only[hk,hcls];rw[if_neg (by decide)];refine ad (wpAny_nsDel_keeps hm λh2 v hn2 hs2=>?_);rw[hmn];simp only[if_true,Bool.not_true,Bool.false_eq_true,if_false];refine am (wpAny_point (h { s1 with heap:=h2 } ?_));obtain⟨oL,esL,epL,hoL,_⟩:=id hm;have wj:=I1.wj;refine⟨I1.ok,I1.os,I1.bare,⟨λb o e n hb hx=>?_,λb o e n hb hx=>?_,I1.base.free,λb o e hx=>?_,I1.base.tups,I1.base.frzs,I1.base.tbls⟩,⟨_,hn2,λj y v' e1 e2 e3=>?_⟩,λy c e=>?_,I1.free,I1.freeC,λp hp=>?_,λa u ha=>?_,by rw[length_set];exact I.len⟩
 .exact(hs2.2 b (pc (nw (tz e) I1.ok.above))).trans (I1.base.keep b o e n hb hx)
 .obtain⟨sl,q⟩:=I1.base.slot b o e n hb hx;exact⟨sl,(hs2.2 b (pc (nw (tz e) I1.ok.above))).trans q⟩
 .obtain⟨o',q⟩:=I1.base.there b o e hx;exact⟨o',(hs2.2 b (pc (nw (tz e) I1.ok.above))).trans q⟩
 .have hj:j≠i:=λz=>by rw[z,getElem?_set_self hiσ]at e2;cases e2
  rw[getElem?_set_ne (Ne.symm hj)]at e2;obtain⟨u,r,q⟩:=hl j y v' e1 (by rw[getElem?_set_ne (Ne.symm hj)];exact e2) e3;refine⟨u,r,?_⟩;rcases q with⟨k,e⟩|⟨k,c,e,z⟩
  .refine .inl ⟨k,?_⟩;have ny:y≠n:=λz=>hj (j9 hN e1 (z▸hi))
   show(if y=n then v else m y)=some u;rw[if_neg ny];exact e
  .exact .inr ⟨k,c,e,z.sameBut hs2 (wj y c e)⟩
 .obtain⟨w',z⟩:=I1.cell y c e;exact⟨w',z.sameBut hs2 (wj y c e)⟩
 .obtain⟨e,n,ne,nf,d⟩:=I1.pin p hp;exact⟨(hs2.2 p.1 ne).trans e,n,ne,nf,d⟩
 .refine(I1.hok a u ha).jy (λb o hb hq=>(hs2.2 b ?_).trans hq) (λ_ q=>q) λ_ _ q=>q
  rintro rfl;rcases hb with hb|hb
  .rw[<-hb,I1.free]at ha;cases ha
  .rw[I1.free]at hb;cases hb
@[reducible]def Cx.fL (X:Cx) (Y:LF) (xe:LD):Cx:={ X with pn:=X.pn++Y,xe:=xe }
def Cx.Ok.fL (ok:X.Ok)(Y:LF)(xe:LD):(X.fL Y xe).Ok:=
 ⟨ok.mod,ok.kind,ok.glob,ok.blt,ok.above,ok.inj,ok.has,ok.cab,ok.hd,ok.frames,ok.stk,ok.exf,ok.bs,ok.bsz,ok.noex,ok.exfs,ok.js,ok.frf⟩
def Inv.fL (I:Inv X Y U H s)(xe:LD):Inv (X.fL Y xe) [] U H s:=
 ⟨I.ok.fL Y xe,I.os,I.bare,I.base,I.loc,I.cell,I.free,I.freeC,λp hp=>I.pin p (by simpa using hp),I.hok,I.len⟩
def Inv.fV (ok:X.Ok)(I:Inv (X.fL Y xe) ps U H s):Inv X Y U H s:=
 ⟨ok,I.os,I.bare,I.base,I.loc,I.cell,I.free,I.freeC,λp hp=>I.pin p (mem_append_left _ hp),I.hok,I.len⟩
def SP.fV {f:Flow}(ok:X.Ok)(h:SP (X.fL Y xe) ps D f s):SP X Y D f s:=by
 cases f with
 |next=>obtain⟨σ',H',I,q⟩:=h;exact⟨σ',H',I.fV ok,q⟩
 |brk=>obtain⟨σ',H',I,q⟩:=h;exact⟨σ',H',I.fV ok,q⟩
 |cont=>obtain⟨σ',H',I,q⟩:=h;exact⟨σ',H',I.fV ok,q⟩
 |ret u=>obtain⟨v,σ',H',I,r,q⟩:=h;exact⟨v,σ',H',I.fV ok,r,q⟩
def Eu {body:List Stmt}{h0:ExceptHandler}{hs:List ExceptHandler}{pos:Pos}{E':St->XK}(I:Inv X Y U H s)(hstk:X.stack=X.env::X.outer)(hfr:X.env.frame=some X.env.locals)
  (hb:∀ xe,F6 (X.fL Y xe) E'->PassesOwn (model X.prog X.w) X.A X.env xe->wpAny (model X.prog X.w) X.A (execs body X.env) (SP (X.fL Y xe) [] D) xe s)
  (hh:∀ (U:St) (H:Hp) (s:Shared) (e C:Addr) (dx:Option Addr) (fs:List (Str×V)) (T:Addr),Inv X Y U H s->H e=some (.exc C dx fs false)->X.s₀.heap.objs.size<=T->H T=none->(∀ p ∈ X.pn++Y,p.1≠T)->Aa s.heap e T .none->E' U e H->
   wpAny (model X.prog X.w) X.A (handleBy (.ref e) X.env (h0::hs)) (SP X Y D) X.xe s):
  wpAny (model X.prog X.w) X.A (exec (.Try body (h0::hs) [] [] pos) X.env) (SP X Y D) X.xe s:=by
 refine wpAny_Try_except (wpAny_mono (hb (λu s1=>wpAny (model X.prog X.w) X.A (noteFrame u X.env) (λ_ s2=>wpAny (model X.prog X.w) X.A (setFlight u none) (λ_ s3=>wpAny (model X.prog X.w) X.A (handleBy u X.env (h0::hs)) (SP X Y D) X.xe s3) X.xe s2) X.xe s1) ?_ PassesOwn.looking) (λf s1 h1=>?_) λ_ _ z=>z)
 .intro σ' H' s' e C dx fs J sf he q;exact lY (X:=X.fL Y _) J hstk hfr sf he λs2 T J2 _ hT hH hp st=>hh σ' H' s2 e C dx fs T (J2.fV I.ok) he hT hH hp st q
 .have h2:=SP.fV I.ok h1;cases f with
  |next=>exact wpAny_execs_nil h2
  |brk=>exact h2
  |cont=>exact h2
  |ret u=>exact h2
def pe {n x:Str}{np hpos:Pos}{b0:Stmt}{bF:List Stmt}{rest:List ExceptHandler}{i:Nat}{e C Ch T:Addr}{fs:List (Str×V)}{b:Bool}(I:Inv X Y U H s)(he:H e=some (.exc C dx fs false))
  (hT:X.s₀.heap.objs.size<=T) (hH:H T=none) (hp:∀ p ∈ X.pn++Y,p.1≠T) (st:Aa s.heap e T .none) (c:cG X.K C) (ch:cG X.K Ch) (hsub:W.mroIn X.K C (.ref Ch)=some b) (hg:Gl X x) (hm:X.mg x=some (.ref Ch))
  (hN:X.N.Nodup) (hi:X.N[i]? =some n) (hn:X.env.scope.names.lookup n=some .local) (hdb:(x ==("__debug__":Str))=false)
  (yes:b=true->∀ s2,Inv (X.bF (.ref e)) Y (U.set i (some (.ref e))) H s2->wpAny (model X.prog X.w) (X.A.mark (some (.ref e))) (execs (b0::bF) X.env)
   (SP (X.bF (.ref e)) Y { nx:=λσ' H'=>D.nx (σ'.set i none) H',rt:=D.rt,bk:=λσ' H'=>D.bk (σ'.set i none) H',ct:=λσ' H'=>D.ct (σ'.set i none) H' }) (λ_ _=>False) s2)
  (no:b=false->wpAny (model X.prog X.w) X.A (handleBy (.ref e) X.env rest) (SP X Y D) X.xe s):
  wpAny (model X.prog X.w) X.A (handleBy (.ref e) X.env (.ExceptHandler (some (.Name x np)) (some n) (b0::bF) hpos::rest)) (SP X Y D) X.xe s:=by
 have I':=I.bF (.ref e);refine wpAny_handleBy_cons (codeAny_handlers_test (bt (X:=X.bF (.ref e)) I' hg hm ?_ hdb)) (by intro q;cases q);obtain⟨⟨vs,ho,hsz,h1⟩,z⟩:=id (I.hok e _ he);have L0:Looks (model X.prog X.w) s.heap (typeOf (.ref e)) (.ref C):=(Looks.ld ho).andThen .now;have L1:Looks (model X.prog X.w) s.heap (typeOf (.ref Ch)) (.type "type"):=looks_typeIn I.bL ch.mt;have L2':Looks (model X.prog X.w) s.heap (isInstance (.ref Ch) (.type "tuple")) false:=L1.andThen (Looks.of_pure tc_notTuple);have L3:Looks (model X.prog X.w) s.heap (isType (.ref Ch)) true:=by
  obtain⟨cd,rs,hcl,_⟩:=ch.mro;unfold W.clsIn at hcl
  split at hcl
  .rename_i ho';intro A' Q' E' s' k q;unfold isType loadHead;exact ad (wpAny_loadPart (k _ _ (I.bL _ _ ho')) (am q))
  .cases hcl
 have L4:Looks (model X.prog X.w) s.heap (isSubtype (.ref Ch) (.type "BaseException")) true:=looks_mroIn I.bL (ch.sub (by decide+kernel));have L5:Looks (model X.prog X.w) s.heap (isSubtype (.ref C) (.ref Ch)) b:=looks_mroIn I.bL hsub;have L6:Looks (model X.prog X.w) s.heap (isExcClass (.ref Ch)) true:=by
  unfold isExcClass;exact L3.andThen L4
 unfold excMatches;refine ad (L2'.here ?_);rw[if_neg (by decide)];refine ad (am ?_);simp only[forIn_cons,forIn_nil];refine ad (ad (ad (L6.here ?_)));rw[if_neg (by decide)];refine am ?_;refine am ?_;refine ad (L0.here ?_);refine ad (ad (ad (L5.here ?_)));cases b with
 |false=>
  rw[if_neg (by decide)];refine am ?_;refine am ?_;refine am ?_;exact no rfl
 |true=>
  rw[if_pos rfl];refine am ?_;refine am ?_;refine am ?_;refine codeAny_handlers_suite_as (uz st λh2 oy oth _ th2 _=>?_);have I2:Inv X Y U H { s with heap:=h2 }:=by
   refine Inv.turned (it:=T) (h':=h2) (t':=s.toks) I (λb o hb hq=>(oth b hb).trans hq) hH ?_ (.inr hT) (λy cc hc z=>?_) hp
   .intro z;obtain⟨m,⟨o,es,ep,ho',hd,_⟩,_⟩:=I.loc;obtain⟨_,_,oT,ts,_,_,_,_,hT2,hd2,_⟩:=st;rw[z,ho']at hT2;cases hT2;rw[hd]at hd2;cases hd2
   .obtain⟨v,o,ho',hd⟩:=I.cell y cc hc;obtain⟨_,_,oT,ts,_,_,_,_,hT2,hd2,_⟩:=st;rw[<-z,ho']at hT2;cases hT2;rw[hd]at hd2;cases hd2
  refine bp (X:=X.bF (.ref e)) (I2.bF (.ref e)) hN hi (.inl hn) (v:=.ref e) rfl (λs3 I3=>?_) (.inr hn);refine wpAny_mono (yes rfl s3 I3) (λf s4 h4=>?_) λ_ _ z=>z.elim
  cases f with
  |next=>
   obtain⟨σ',H',J,q⟩:=h4;exact fg (J.jN I.ok) hN hi hn λs5 J5=>⟨_,H',J5,q⟩
  |brk=>
   obtain⟨σ',H',J,q⟩:=h4;exact fg (J.jN I.ok) hN hi hn λs5 J5=>⟨_,H',J5,q⟩
  |cont=>
   obtain⟨σ',H',J,q⟩:=h4;exact fg (J.jN I.ok) hN hi hn λs5 J5=>⟨_,H',J5,q⟩
  |ret u=>
   obtain⟨v,σ',H',J,r,q⟩:=h4;exact fg (J.jN I.ok) hN hi hn λs5 J5=>⟨v,_,H',J5,r,q⟩
end
end L2
namespace L2
open PySem PySem.Spec PyProof.Rows
def Es:bootBuiltins "isinstance"=some (.builtin "isinstance"):=by decide+kernel
section
variable {X:Cx}
abbrev HB (K:W.Frag):V->V->Hp->VK->Prop:=λx y H Q=>∃ p xs i v,x=.ref p/\y=.int i/\bj K H p xs/\0<=i/\xs[i.toNat]? =some v/\Q v H
def wJ:Dr X (HB X.K):=by
 intro Y s U H o i ov iv Q I ro ri h;obtain⟨p,xs,k,z,rfl,rfl,hq,h0,he,q⟩:=h;cases ro;obtain⟨t,rfl⟩:=ri;obtain⟨its,r,pl,hz⟩:=I.list hq;obtain⟨w,ew,rw'⟩:=r.get he;have hl:k.toNat<xs.length:=(sw.mp he).1;have hn:=il;exact wpAny_getItem_list pl.isList h0 nofun (by simpa using ew) ⟨z,H,I,rw',q⟩
def jM {xs:List V}{us:List Value}(r:Vals xs us){j:Nat}(h:j<us.toArray.size):∃ x,xs[j]? =some x/\RelV x (us.toArray[j]):=by
 have hl:=r.length;have hj:j<us.length:=by simpa using h
 have e:xs[j]? =some xs[j]:=li nofun;obtain⟨u,h1,h2⟩:=r.get e;refine⟨_,e,?_⟩;rw[li hj]at h1;cases h1;simpa using h2
end
section
variable {U:St}{H:Hp}{Q:VK}{D:Ends}{K:W.Frag}
abbrev uh (x:V)(H:Hp)(R:Bool->Hp->Prop):Prop:=∃ k,x=.bl k/\R k H
def ei {α:Type}{xs:List α}{i:Int}(h0:0<=i)(h1:i<xs.length):∃ v,kO xs i=some v/\v ∈ xs:=by
 obtain⟨n,rfl⟩:=Int.eq_ofNat_of_zero_le h0;have hn:n<xs.length:=by omega
 exact⟨xs[n],nK (li hn),getElem_mem hn⟩
end
section
variable {K:W.Frag}{g:TG}{tb:TS}{D:Ends}{U:St}{H:Hp}{tl:TE}{ta:TA}
end
def fits {n:Nat}(h:n<=1000):n<=bn:=Nat.le_of_lt (cR h)
section
variable {X:Cx}{H:Hp}{Q:VK}
end
section
variable {K:W.Frag}
end
section
variable {H H':Hp}{h c p:Addr}{m n:Int}{o:HO}
end
def Hq (ns:List Int)(h:ns.length<=63):jw (ns.map V.int) none (some 63)=ns.map V.int:=by
 have e1:HT.qx (ns.map V.int).length 0 none=0:=rfl;have e2:HT.qx (ns.map V.int).length (ns.map V.int).length (some 63)=(ns.map V.int).length:=by
  show(if(63:Int)<0 then((63:Int)+((ns.map V.int).length:Int)).toNat else min (63:Int).toNat (ns.map V.int).length)=(ns.map V.int).length;rw[if_neg (by decide),ce];show min 63 ns.length=ns.length
  omega
 unfold jw;rw[e1,e2,drop_zero,Nat.sub_zero,take_length]
variable {ns:List Int}
def rh {i:Nat}{x:V}(h:(ns.map V.int)[i]? =some x):∃ z,x=V.int z:=by
 rw[im]at h;cases e:ns[i]? with
 |none=>rw[e]at h;cases h
 |some z=>rw[e]at h;exact⟨z,(Option.some.inj h).symm⟩
def zK {i:Int}(h0:0<=i)(h1:i<ns.length):∃ z,kO (ns.map V.int) i=some (.int z):=by
 obtain⟨v,a,m⟩:=ei (xs:=ns.map V.int) h0 (by rw[ce];exact h1);obtain⟨z,_,rfl⟩:=List.mem_map.mp m;exact⟨z,a⟩
section
variable {H:Hp}{Q:VK}
end
section
variable {X:Cx}
end
variable {A:Around}{E:LD}{s:Shared}
def CG {α:Type}{t:Sem α}{Q Q':α->Shared->Prop}{M:Model}(h:wpAny M A t Q (λ_ _=>False) s) (hQ:∀ a s,Q a s->Q' a s):wpAny M A t Q' E s:=wpAny_mono h hQ λ_ _ x=>x.elim
abbrev fE (X:Cx)(scope:Scope)(cl:List (Str×Addr))(N:List Str)(s:Shared)(H:Hp)(fp:List Addr):Cx:=
 { X with N:=N,s₀:=s,H₀:=H,env:=compEnvC scope cl s.heap.objs.size X.env,outer:=X.stack,stack:=X.stack,ex:=fp,fn:=λ_=>false,pn:=[],xe:=λ_ _=>False }
structure bB (X:Cx) (scope:Scope) (cl:List (Str×Addr)) (xs:List Str) (fr:List Str) (sel:List Nat):Prop where
 clos:closureFor scope X.env=pure cl
 sub:∀ y c,cl.lookup y=some c->X.env.cells.lookup y=some c
 has:∀ y,((relabel scope X.env).names.lookup y=some .cell\/(relabel scope X.env).names.lookup y=some .free)->∃ c,cl.lookup y=some c
 kind:scope.kind=.function
 nocell:∀ y ∈ scope.names,y.2≠.cell
 names:∀ y ∈ scope.names,y.2=.local->scope.names.lookup y.1=some .local
 own:∀ x ∈ xs,scope.names.lookup x=some .local
 len:sel.length=fr.length
 out:∀ (j:Nat) (y:Str),fr[j]? =some y->∃ i,sel[j]? =some i/\X.N[i]? =some y/\X.env.scope.names.lookup y=some .cell/\(relabel scope X.env).names.lookup y=some .cell
 nd:(xs++fr).Nodup
abbrev gu (U:St)(sel:List Nat):St:=sel.map λi=>U.getD i none
abbrev LC (te:TE)(J:It)(σ₀:St)(H1:Hp)(Q:VK):Prop:=∀ D,H1 D=none->∃ W:Nat->Nat->St->Hp->Prop,(∃ m,W 0 m σ₀ (upd H1 D (.lst [])))/\∀ i m σ' H',W i m σ' H'->
 (J.stop i H'/\Q (.ref D) H')\/(J.go i H'/\∃ N:St->Hp->Prop,(∀ σ2 H2,N σ2 H2->∃ m',m'<m/\W (i+1) m' σ2 H2)/\
  ∀ x H'',J.yld i H' x H''->te (σ'.set 0 (some x)) H'' λv H3=>∃ zs,H3 D=some (.lst zs)/\zs.length<bn/\N (σ'.set 0 (some x)) (upd H3 D (.lst (zs++[v]))))
abbrev gate (env:Env):List Expr->Sem Bool
 | []=>pure true
 |c::_=>isTrue c env (eval c env)
variable {ifs:List Expr}{scope:Scope}{pos:Pos}
def tL {M:Model}{elt target iter:Expr}{it acc:Value}{env:Env}{Q:PySem.Fin->Shared->Prop}(hi:ifs.length<=1)
  (h:wpAny M A (pyNext it) (λr s1=>match r with
   |none=>Q (.done .next) s1
   |some v=>wpAny M A (letOwnedTupleGo target it v) (λ_ s2=>wpAny M A (assign target env v) (λ_ s3=>wpAny M A (gate env ifs) (λok s4=>
    (ok=true->wpAny M A (eval elt env) (λx s5=>wpAny M A (call (.builtin "list.append") [acc,x]) (λ_ s6=>wpAny M A (again (.compLoop (.ListComp elt [⟨target,iter,ifs,0⟩] scope pos) 0 it acc env)) Q E s6) E s5) E s4)/\
    (ok=false->wpAny M A (again (.compLoop (.ListComp elt [⟨target,iter,ifs,0⟩] scope pos) 0 it acc env)) Q E s4)) E s3) E s2) E s1) E s):
  wpAny M A (compTurn (.ListComp elt [⟨target,iter,ifs,0⟩] scope pos) 0 it acc env) Q E s:=by
 have key:∀ {g:Sem Bool}{K:Sem PySem.Fin}{s:Shared},wpAny M A g (λok s4=>
    (ok=true->wpAny M A (eval elt env) (λx s5=>wpAny M A (call (.builtin "list.append") [acc,x]) (λ_ s6=>wpAny M A K Q E s6) E s5) E s4)/\
    (ok=false->wpAny M A K Q E s4)) E s->wpAny M A (g >>= λok=>if ok=true then(eval elt env >>= λx=>call (.builtin "list.append") [acc,x] >>= λ_=>pure ()) >>= λ_=>K else K) Q E s:=λ{g K s} h=>by
  refine ad (wpAny_mono h (λok s4 h4=>?_) λ_ _ e=>e);cases ok with
  |false=>exact h4.2 rfl
  |true=>exact ad (ad (wpAny_mono (h4.1 rfl) (λx s5 h5=>ad (wpAny_mono h5 (λ_ s6 h6=>am h6) λ_ _ e=>e)) λ_ _ e=>e))
 match ifs,hi with
 | [],_=>
  rw[compTurn_list1];refine ad (wpAny_standAt (ad (wpAny_mono h (λr s1 h1=>?_) λ_ _ e=>e)));cases r with
  |none=>exact am h1
  |some v=>
   refine ad (wpAny_mono h1 (λ_ s2 h2=>ad (wpAny_mono h2 (λ_ s3 h3=>?_) λ_ _ e=>e)) λ_ _ e=>e);exact key (g:=pure true) h3
 | [c],_=>
  unfold compTurn;simp only[List.getElem?_cons_zero,List.getElem?_cons_succ,List.getElem?_nil];dsimp only[forIn,List.forIn',List.forIn'.loop,forIn'];rw[if_neg (by decide),if_neg (by decide)];refine ad (wpAny_standAt (ad (wpAny_mono h (λr s1 h1=>?_) λ_ _ e=>e)));cases r with
  |none=>exact am h1
  |some v=>
   refine ad (wpAny_mono h1 (λ_ s2 h2=>ad (wpAny_mono h2 (λ_ s3 h3=>?_) λ_ _ e=>e)) λ_ _ e=>e);refine key ?_;rw[if_pos rfl];refine ad (ad (wpAny_mono h3 (λok s4 h4=>am ?_) λ_ _ e=>e));exact am h4
abbrev LCg (tg:TG)(tc:TT)(te:TE)(J:It)(σ₀:St)(H1:Hp)(Q:VK):Prop:=∀ D,H1 D=none->∃ W:Nat->Nat->St->Hp->Prop,(∃ m,W 0 m σ₀ (upd H1 D (.lst [])))/\∀ i m σ' H',W i m σ' H'->
 (J.stop i H'/\Q (.ref D) H')\/(J.go i H'/\∃ N:St->Hp->Prop,(∀ σ2 H2,N σ2 H2->∃ m',m'<m/\W (i+1) m' σ2 H2)/\
  ∀ x H'',J.yld i H' x H''->tg x σ' H'' λσ2 H2=>tc σ2 H2 λb H3=>(b=true->te σ2 H3 λv H4=>∃ zs,H4 D=some (.lst zs)/\zs.length<bn/\N σ2 (upd H4 D (.lst (zs++[v]))))/\(b=false->N σ2 H3))
abbrev yes:TT:=λ_ H Q=>Q true H
variable {te:TE}
def LC.g {J:It}{σ₀:St}{H1:Hp}{Q:VK}(h:LC te J σ₀ H1 Q):LCg (gJ 0) yes te J σ₀ H1 Q:=λD hD=>by
 obtain⟨W,w0,turn⟩:=h D hD;refine⟨W,w0,λi m σ' H' w=>?_⟩;rcases turn i m σ' H' w with z|⟨go,N,hN,step⟩
 .exact .inl z
 .exact .inr ⟨go,N,hN,λx H'' y=>⟨λ_=>step x H'' y,λe=>nomatch e⟩⟩
abbrev Jc (X:Cx)(ifs:List Expr)(tc:TT):Prop:=ifs.length<=1/\∀ (Y:LF) (s:Shared) (U:St) (H:Hp) (Q:Bool->Hp->Prop),Inv X Y U H s->tc U H Q->wpAny (model X.prog X.w) X.A (gate X.env ifs) (TP X Y U Q) X.xe s
variable {X:Cx}
def jH:Jc X [] yes:=⟨Nat.zero_le _,λY s U H Q I q=>am ⟨H,I,q⟩⟩
def AU {c:Expr}{tc:TT}(h:PT X c tc):Jc X [c] tc:=⟨pi _,h⟩
abbrev pN (xs:List Str):St:=xs.map λ_=>none
abbrev KQ (wi:TI)(te:TE)(sel:List Nat):TE:=λU H Q=>wi U H λJ H1=>LC te J (none::gu U sel) H1 Q
abbrev Hx (wi:TI)(tg:TG)(tc:TT)(te:TE)(xs:List Str)(sel:List Nat):TE:=λU H Q=>wi U H λJ H1=>LCg tg tc te J (pN xs++gu U sel) H1 Q
variable {cl:List (Str×Addr)}{xs fr:List Str}{sel:List Nat}{fp:List Addr}
section
variable {X:Cx}
def Un.sameBut {fs ex:List Addr}{H H':Hp}{h h1 h2:Heap}{C:Addr}(u:Un fs ex H H' h h1)(hs:Heap.SameBut C h1 h2)(hC:h.objs.size<=C):Un fs ex H H' h h2:=by
 have ne:∀ b o,h.get? b=some o->b≠C:=λb o e=>pc (nw (tz e) hC)
 refine⟨λb o e n hb hx=>(hs.2 b (ne b o e)).trans (u.keep b o e n hb hx),λb o e n hb hx=>?_,u.free,λb o e hx=>?_,u.tups,u.frzs,u.tbls⟩
 .obtain⟨sl,q⟩:=u.slot b o e n hb hx;exact⟨sl,(hs.2 b (ne b o e)).trans q⟩
 .obtain⟨o',q⟩:=u.there b o e hx;exact⟨o',(hs.2 b (ne b o e)).trans q⟩
def qm {Y:LF}{U:St}{H:Hp}{h':Heap}{tk:Nat}{m':LG}
  (S:bB X scope cl xs fr sel) (I:Inv X Y U H s) (f2:∀ b ∈ fp,hX X Y H b) (fo:∀ b ∈ fp,b<s.heap.objs.size) (hns:h'.Ns s.heap.objs.size m') (keep:∀ b o,s.heap.get? b=some o->h'.get? b=some o):
  Inv (fE X scope cl (xs++fr) s H fp) (X.pn++Y) (pN xs++gu U sel) H { s with heap:=h',toks:=tk }:=by
 have stk:∀ b,b≠X.env.locals->b ∉ X.fs->b ∉ nv X.stack:=λb h1 h2 hb=>(mo.mp (I.ik b hb)).elim h1 h2
 refine⟨⟨I.ok.mod,S.kind,I.ok.glob,I.ok.blt,pi _,λy z c h1 h2=>I.ok.inj y z c (S.sub y c h1) (S.sub z c h2),λy hy=>S.has y hy,(λy c h=>nomatch h),I.ok.hd,I.ok.frames,.inl rfl,λb hb=>⟨pc (fo b hb),λy c h=>(f2 b hb).2.2.2.2.1 y c (S.sub y c h)⟩,I.bs,
  Nat.le_trans I.ok.bsz I.sz,λb o e hb=>?_,λb hb=>stk b (f2 b hb).2.1 (f2 b hb).2.2.1,I.stack,I.mW⟩,
  rfl,I.bare,Un.kept keep,⟨m',hns,λi y v e1 e2 e3=>?_⟩,λy c h=>?_,I.hok.fresh (pi _),λy c h=>I.freeC y c (S.sub y c h),λp hp=>?_,I.hok.kept keep,?_⟩
 .rcases(f2 b hb).2.2.2.1 with z|z
  .exact I.ok.noex b o e z
  .exact absurd (nw (nw (tz e) I.ok.bsz) z) (Nat.lt_irrefl _)
 .have hln:(pN xs).length=xs.length:=ce ..
  by_cases hlt:i<xs.length
  .rw[getElem?_append_left (by rw[hln];exact hlt)]at e2;unfold pN at e2;rw[im,li hlt]at e2;cases e2
  .obtain⟨j,rfl⟩:∃ j,i=xs.length+j:=⟨i-xs.length,by omega⟩;have e1':fr[j]? =some y:=by
    have e1:(xs++fr)[xs.length+j]? =some y:=e1;rw[getElem?_append_right nofun,show xs.length+j-xs.length=j by omega]at e1;exact e1
   obtain⟨i,hi,hN,k1,k2⟩:=S.out j y e1';have e2':(gu U sel)[j]? =some (some v):=by
    rw[getElem?_append_right (by rw[hln];omega),hln,show xs.length+j-xs.length=j by omega]at e2;exact e2
   have e4:U[i]? =some (some v):=by
    unfold gu at e2';rw[im,hi]at e2';have e5:U.getD i none=some v:=Option.some.inj e2';rw[List.getD_eq_getElem?_getD]at e5;cases e6:U[i]? with
    |none=>rw[e6]at e5;cases e5
    |some z=>rw[e6]at e5;exact congrArg some e5
   obtain⟨m,hn,hl⟩:=I.loc;obtain⟨u,r,l⟩:=hl i y v hN e4 (.inr (.inl k1));refine⟨u,r,.inr ⟨.inl k2,?_⟩⟩;rcases l with⟨hk,_⟩|⟨_,c,hc,o,ho,hd⟩
   .have hk':X.env.scope.names.lookup y=some .local:=hk;rw[k1]at hk';cases hk'
   .obtain⟨c',hc'⟩:=S.has y (.inl k2);have:=(S.sub y c' hc').symm.trans hc;cases this;exact⟨c,hc',o,keep c o ho,hd⟩
 .obtain⟨v,o,ho,hd⟩:=I.cell y c (S.sub y c h);exact⟨v,o,keep c o ho,hd⟩
 .obtain⟨e,n,ne,nf,d⟩:=I.pin p (by simpa[fE] using hp);exact⟨keep p.1 p.2 e,n,pc (tz e),stk p.1 ne nf,d⟩
 .show(pN xs++gu U sel).length=(xs++fr).length;unfold gu pN;simp[S.len]
def md {elt iter tgt:Expr}{wi:TI}{tg:TG}{tc:TT}(hc:X.calm=true)(S:bB X scope cl xs fr sel)(hi:PI X tgt iter wi)
  (hg:∀ (s:Shared) (H:Hp) (fp:List Addr),PG (fE X scope cl (xs++fr) s H fp) tgt tg) (ht:∀ (s:Shared) (H:Hp) (fp:List Addr),Jc (fE X scope cl (xs++fr) s H fp) ifs tc)
  (he:∀ (s:Shared) (H:Hp) (fp:List Addr),PE (fE X scope cl (xs++fr) s H fp) elt te) (hs:∀ x,foldedSetIterable iter X.env x=pure x):PE X (.ListComp elt [⟨tgt,iter,ifs,0⟩] scope pos) (Hx wi tg tc te xs sel):=by
 intro Y s U H Q I h;rw[eval_ListComp];refine wpAny_comprehension_free (use:=none) rfl hs S.clos S.kind S.names ?_;refine aA (hi Y s U H _ I h) λv s1 h1=>aA h1 λitv s2 h2=>?_
 obtain⟨it,fp,tn,J,H2,e,I2,T,oy,f2,h2⟩:=h2;subst e;refine wpAny_newObj_type ?_;have hD:H2 s2.heap.objs.size=none:=I2.hok.fresh (pi _);have I3:Inv X Y U (upd H2 s2.heap.objs.size (.lst [])) { s2 with heap:=s2.heap.push { cls:=.type "list",dict:=none,data:=.seq ([]:List Value).toArray } }:=
  I2.laid (t':=s2.toks) (λb u e=>sK _ e) (pi _) ⟨Nat.zero_le _,[],0,.nil,ul _ rfl⟩
 have fo2:∀ b ∈ fp,b<s2.heap.objs.size:=λb hb=>by
  obtain⟨o,ho,_⟩:=T.obj _ _ oy b hb;exact tz ho
 have f3:∀ b ∈ fp,hX X Y (upd H2 s2.heap.objs.size (.lst [])) b:=λb hb=>⟨by rw[ak (pc (fo2 b hb))];exact(f2 b hb).1,(f2 b hb).2⟩
 have st3:tn 0 (s2.heap.push { cls:=.type "list",dict:=none,data:=.seq ([]:List Value).toArray }):=T.keep _ _ _ oy λb hb o e=>sK _ e
 have fo3:∀ b ∈ fp,b<(s2.heap.push { cls:=.type "list",dict:=none,data:=.seq ([]:List Value).toArray }).objs.size:=λb hb=>by
  rw[Heap.size_push];exact Nat.lt_succ_of_lt (fo2 b hb)
 obtain⟨W,⟨m0,w0⟩,turn⟩:=h2 _ hD;generalize s2.heap.objs.size=D at*;generalize hs3:({ s2 with heap:=s2.heap.push { cls:=.type "list",dict:=none,data:=.seq ([]:List Value).toArray } }:Shared)=s3 at*;have st3':tn 0 s3.heap:=by rw[<-hs3];exact st3
 have fo3':∀ b ∈ fp,b<s3.heap.objs.size:=by rw[<-hs3];exact fo3
 refine wpAny_newFunctionEnv S.nocell (by intro y hy;simp at hy) (λh' hns hsb=>?_) S.kind;have keep:∀ b o,s3.heap.get? b=some o->h'.get? b=some o:=λb o e=>(hsb.2 b (pc (tz e))).trans (sK _ e)
 have I4:=qm (tk:=s3.toks+([]:List (Str×Value)).length) S I3 f3 fo3' hns keep;have st4:tn 0 h':=T.keep _ _ _ st3' λb hb o e=>keep b o e
 have stat:∀ {H':Hp},(∀ b ∈ fp,H' b=none)->∀ b ∈ fp,hX (fE X scope cl (xs++fr) s3 (upd H2 D (.lst [])) fp) (X.pn++Y) H' b:=λ{H'} hn b hb=>
  ⟨hn b hb,pc (fo3' b hb),λz=>(mo.mp (I3.ik b z)).elim (f3 b hb).2.1 (f3 b hb).2.2.1,.inl hb,λy c hy=>(f3 b hb).2.2.2.2.1 y c (S.sub y c hy),λp hp=>(f3 b hb).2.2.2.2.2 p (by simpa[fE] using hp)⟩
 have loop:codeAny (model X.prog X.w) X.A (.compLoop (.ListComp elt [⟨tgt,iter,ifs,0⟩] scope pos) 0 (.ref it) (.ref D) (compEnvC scope cl s3.heap.objs.size X.env))
   (compPost (model X.prog X.w) X.A X.xe none (EP X Y U Q) (.ref D) s3.heap.objs.size) { s3 with heap:=h',toks:=s3.toks+([]:List (Str×Value)).length }:=by
  refine codeAny_loop rfl (λn s'=>∃ i σ' H',Inv (fE X scope cl (xs++fr) s3 (upd H2 D (.lst [])) fp) (X.pn++Y) σ' H' s'/\tn i s'.heap/\(∀ b ∈ fp,H' b=none)/\W i n σ' H') (λn s5 hI=>?_) m0 ⟨0,_,_,I4,st4,λb hb=>(f3 b hb).1,w0⟩;show wpAny _ _ ((compTurn (.ListComp elt [⟨tgt,iter,ifs,0⟩] scope pos) 0 (.ref it) (.ref D) (compEnvC scope cl s3.heap.objs.size X.env)).onRaise (λx=>do noteFrame x (compEnvC scope cl s3.heap.objs.size X.env);theTreesLotGoes x)) _ _ s5;refine wpAny_noted ?_;refine tL (ht s3 (upd H2 D (.lst [])) fp).1 ?_;obtain⟨i,σ5,H5,I5,st5,fr5,w5⟩:=hI;rcases turn i n σ5 H5 w5 with⟨stop,q⟩|⟨go,Nn,hN,step⟩
  .refine aA (T.done (fE X scope cl (xs++fr) s3 (upd H2 D (.lst [])) fp) rfl rfl rfl hc i _ s5 σ5 H5 _ I5 (stat fr5) st5 stop) λr s6 ⟨hr,I6⟩=>?_
   subst hr;obtain⟨m,hn,_⟩:=I6.loc;refine⟨m,hn,λh'' hs''=>⟨.ref D,H5,I3.xV (ch:=fp) I6.os (I6.base.sameBut hs'' (pi _)) (λb ob e=>?_) I6.bare λb hb=>⟨(f3 b hb).2.2.2.1,(f3 b hb).2.1,(f3 b hb).2.2.2.2.1,(f3 b hb).2.2.2.2.2⟩,rfl,q⟩⟩;refine(I6.hok b ob e).jy (λc w' hc' q'=>(hs''.2 c ?_).trans q') (λ_ q'=>q') λ_ _ q'=>q'
   have fC:H5 s3.heap.objs.size=none:=I6.free;intro z;rcases hc' with z2|z2
   .rw[z2]at z;rw[z,fC]at e;cases e
   .rw[z,fC]at z2;cases z2
  .have fin:∀ {σ8:St}{H10:Hp}{s10:Shared},Inv (fE X scope cl (xs++fr) s3 (upd H2 D (.lst [])) fp) (X.pn++Y) σ8 H10 s10/\tn (i+1) s10.heap/\(∀ b ∈ fp,H10 b=none)->Nn σ8 H10->∃ m',m'<n/\∃ i σ' H',Inv (fE X scope cl (xs++fr) s3 (upd H2 D (.lst [])) fp) (X.pn++Y) σ' H' s10/\tn i s10.heap/\(∀ b ∈ fp,H' b=none)/\W i m' σ' H':=λ⟨I,t,f⟩ nn=>by
    obtain⟨m',hm,w10⟩:=hN _ _ nn;exact⟨m',hm,i+1,_,_,I,t,f,w10⟩
   refine aA (T.item (fE X scope cl (xs++fr) s3 (upd H2 D (.lst [])) fp) rfl rfl rfl hc i _ s5 σ5 H5 _ I5 (stat fr5) st5 go) λr s6 ⟨u,hr,h6⟩=>?_
   subst hr;refine aA h6 λ_ s7 ⟨xv,H7,I7,r7,y7,st7,fr7⟩=>?_
   have I7':=I7.pinned (stat fr7) (T.obj _ _ st7);refine CG (hg s3 _ fp _ s7 σ5 H7 xv u _ I7' r7 (step xv _ y7)) λ_ s8 ⟨σ8,H8,I8,q8⟩=>?_
   refine CG ((ht s3 _ fp).2 _ s8 σ8 H8 _ I8 q8) λok s9 ⟨H9,I9,q9⟩=>?_
   have back:∀ {H10:Hp}{s10:Shared},Inv (fE X scope cl (xs++fr) s3 (upd H2 D (.lst [])) fp) _ σ8 H10 s10->Inv (fE X scope cl (xs++fr) s3 (upd H2 D (.lst [])) fp) (X.pn++Y) σ8 H10 s10/\tn (i+1) s10.heap/\(∀ b ∈ fp,H10 b=none):=λ{H10 s10} I10=>⟨I10.fc,T.keep _ _ _ st7 λb hb o e=>(I10.pin (b,o) (ii _ (ii _ (bN hb e)))).1,λb hb=>by
    obtain⟨o,e,d⟩:=T.obj _ _ st7 b hb;exact(I10.pin (b,o) (ii _ (ii _ (bN hb e)))).2.1⟩
   refine⟨λek=>?_,λek=>am ⟨rfl,fin (back I9) (q9.2 ek)⟩⟩;refine CG (he s3 _ fp _ s9 _ _ _ I9 (q9.1 ek)) λuv s10 ⟨vv,H10,I10,r10,zs,hz,hzl,n10⟩=>?_
   refine CG (hE (X:=fE X scope cl (xs++fr) s3 (upd H2 D (.lst [])) fp) _ s10 _ H10 (.ref D) [vv] (.ref D) [uv] (λ_ H'=>H'=upd H10 D (.lst (zs++[vv]))) I10 rfl (.cons r10 .nil) ⟨D,zs,vv,rfl,rfl,hz,hzl,rfl⟩) λ_ s11 ⟨_,H11,I11,_,e11⟩=>?_
   subst e11;exact am ⟨rfl,fin (back I11) n10⟩
 exact codeAny_compStart_list loop (T.self _ 0 _ _ _ st4 loop)
def rC {x:Str}{px:Pos}{H:Hp}(S:bB X scope cl [x] fr sel):PG (fE X scope cl ([x]++fr) s H fp) (.Name x px) (gJ 0):=gI S.nd rfl (.inl (lookup_relabel_local (S.own x (lw ..)))) (.inr (lookup_relabel_local (S.own x (lw ..))))
abbrev Lk (wi:TI):TI:=λU H R=>∃ R0:It->Hp->Prop,wi U H R0/\∀ J H,R0 J H->R J H
def PI.up {tg iter:Expr}{wi:TI}(h:PI X tg iter wi):PI X tg iter (Lk wi):=λY s U H R I ⟨R0,q,m⟩=>
 aA (h Y s U H R0 I q) λv s1 h1=>wpAny_mono h1 (λitv s2 ⟨it,fp,tn,J,H',e,I,T,t0,f,r⟩=>⟨it,fp,tn,J,H',e,I,T,t0,f,m _ _ r⟩) λ_ _ e=>e
def wV {elt iter:Expr}{x:Str}{px:Pos}{wi:TI}(hc:X.calm=true)(S:bB X scope cl [x] fr sel)(hi:PI X (.Name x px) iter wi)
  (he:∀ (s:Shared) (H:Hp) (fp:List Addr),PE (fE X scope cl (x::fr) s H fp) elt te) (hs:∀ x,foldedSetIterable iter X.env x=pure x):PE X (.ListComp elt [⟨.Name x px,iter,[],0⟩] scope pos) (KQ wi te sel):=λY s U H Q I h=>
 md (tg:=gJ 0) hc S hi.up (λs H fp=>rC S) (λ_ _ _=>jH) he hs Y s U H Q I ⟨_,h,λ_ _ q=>q.g⟩
end
section
variable {U:St}{H:Hp}{Q:VK}{te tl:TE}{ta:TA}{sel:List Nat}{σ₀ rest:St}{K:W.Frag}
end
def dy {env:Env}:∀ {names:List (Str×NameKind)}{y:Str}{k':NameKind},(names.map λ(n,k)=>if(k ==NameKind.free&&env.scope.kind ==.function&&env.kindOf n ==some .cell) then(n,NameKind.cell) else(n,k)).lookup y=some k'->∃ k,(y,k) ∈ names/\(k'=k\/(k=.free/\k'=.cell))
 | [],_,_,h=>by simp at h
 |(n,k)::r,y,k',h=>by
  rw[map_cons,lookup_cons]at h
  by_cases hc:(k ==NameKind.free&&env.scope.kind ==.function&&env.kindOf n ==some .cell)=true
  .simp only[hc,if_true]at h
   by_cases e:y=n
   .subst e;simp at h;simp at hc;exact⟨k,lw,.inr ⟨hc.1.1,h.symm⟩⟩
   .rw[show(y ==n)=false from beq_eq_false_iff_ne.mpr e]at h;obtain⟨k2,m,q⟩:=dy (env:=env) h;exact⟨k2,dl _ m,q⟩
  .rw[Bool.not_eq_true]at hc;simp only[hc,Bool.false_eq_true,if_false]at h
   by_cases e:y=n
   .subst e;simp at h;exact⟨k,lw,.inl h.symm⟩
   .simp only[show(y ==n)=false from beq_eq_false_iff_ne.mpr e]at h;obtain⟨k2,m,q⟩:=dy (env:=env) h;exact⟨k2,dl _ m,q⟩
section
variable {K:W.Frag}
end
section
variable {K:W.Frag}{H:Hp}
end
section
variable {U:St}{H:Hp}{Q:VK}
end
abbrev notStar:Expr->Bool
 | .Starred ..=>false
 |_=>true
variable {es:List Expr}
def af {e:Expr}{env:Env}(h:notStar e=true):bm (e::es) env=(false,eval e env)::bm es env:=by
 cases e<;>first|rfl|cases h
def gT {e:Expr}{t:TA}(ha:PE X e te)(hr:PA X es t)(h:notStar e=true:=by rfl):PA X (e::es) (CO te t):=A7 ha hr (af h)
section
variable {X:Cx}{Y:LF}{U:St}{H:Hp}{s:Shared}{h':Heap}
def Inv.pM {t':Nat}{ch:List Addr}{a:Addr}{o:HO}(I:Inv X Y U H s)(k:∀ b u,b ∉ ch->s.heap.get? b=some u->h'.get? b=some u) (hf:∀ b ∈ ch,hX X Y H b)
  (hp:s.heap.objs.size<=a) (new:aL X.prog X.w (upd H a o) h' a o):Inv X Y U (upd H a o) { s with heap:=h',toks:=t' }:=by
 have hn:H a=none:=I.hok.fresh hp;have nch:∀ b u,H b=some u->b ∉ ch:=λb u e z=>by rw[(hf b z).1]at e;cases e
 refine I.step (g':=s.gens) (d':=s.drawn) (ch:=ch) (λb hb=>?_) (λb o _ _ hc e _=>k b o hc e) (λb o _ _ hc e _=>⟨o.slots,k b o hc e⟩) (λb o hc e n=>?_)
  (λb o hc e=>⟨o,k b o hc e⟩) (λb xs e=>?_) (λb ob u e=>?_) (λb ps e=>?_) (λm hm=>?_) (λb u e=>?_) I.bare
 .obtain⟨_,f1,_,f3,f4,f5⟩:=hf b hb;exact⟨f3,f1,f4,f5⟩
 .rw[ak (pc (nw (tz e) hp))];exact n
 .rw[ak (aQ e hn)];exact e
 .rw[ak (aQ e hn)];exact e
 .exact⟨#[],by rw[ak (aQ e hn),e];simp⟩
 .obtain⟨o,es,ep,ho,r⟩:=hm;exact⟨o,es,ep,k _ o (λz=>(hf _ z).2.1 rfl) ho,r⟩
 .by_cases hb:b=a
  .subst hb;rw[aB]at e;cases e;exact new
  .rw[ak hb]at e;refine(I.hok b u e).jy (λc v hc q=>k c v ?_ q) (λc q=>by rw[ak (aQ q hn)];exact q) λc xs q=>by rw[ak (aQ q hn)];exact q
   rcases hc with rfl|hc
   .exact nch _ _ e
   .exact nch _ _ hc
end
abbrev GV (l:Addr):It:=
 ⟨λi H=>∃ xs x,H l=some (.lst xs)/\xs[i]? =some x,λi H x H'=>∃ T y,H T=none/\x=.ref T/\H'=upd H T (.tup [.int i,y])/\∀ xs,H l=some (.lst xs)->xs[i]? =some y,λi H=>∃ xs,H l=some (.lst xs)/\xs.length<=i⟩
variable {elts:List Expr}
def vB {P:Program}{w:World}{K:W.Frag}{k:Nat}(l e it:Addr)(hei:e≠it):
  Turn P w K (.Tuple elts k pos) (GV l) [e,it] e (λi h=>(∃ old,IsEnum h e it ((i:Nat):Int) old)/\h.IsListIter it l i) where
 mem:=by simp
 obj:=λi h st b hb=>by
  obtain⟨⟨old,he⟩,hit⟩:=st;rcases mo.mp hb with rfl|hb
  .exact⟨_,he,λv z=>by
    have z':Data.fields _=Data.cell v:=z;cases z'⟩
  .have e':b=it:=by simpa using hb
   subst e';obtain⟨o,e,c,d⟩:=hit;exact⟨o,e,λv z=>by rw[d]at z;cases z⟩
 keep:=λi h h' st k=>by
  obtain⟨⟨old,he⟩,hit⟩:=st;exact⟨⟨old,k e (by simp) _ he⟩,hit.at λo q=>k it (by simp) o q⟩
 item:=by
  intro X hP hw hK hc i Y s U H E I hf st hg;subst hP hw hK;obtain⟨xs,x,hq,hx⟩:=hg;obtain⟨⟨old,he⟩,hit⟩:=st;obtain⟨its,rv,p,hz⟩:=I.list (bj.of hq);obtain⟨u,hu,ru⟩:=rv.get hx;have heN:H e=none:=(hf e (by simp)).1;have hes:e≠s.heap.objs.size:=pc (tz he);obtain⟨oi,hoi,_⟩:=id hit;have his:it≠s.heap.objs.size:=pc (tz hoi);refine wpAny_pyNext_enum_item he hit p.isList (x:=u) (by simpa using hu) hei λh1 heo hit1 ht1 hz1 hk1=>?_
  have I1:Inv X Y U (upd H s.heap.objs.size (.tup [.int i,x])) { s with heap:=h1,toks:=s.toks+1 }:=
   I.pM (ch:=[e,it]) (λb o hb q=>hk1 b o (λz=>hb (by simp[z])) (λz=>hb (by simp[z])) q) hf (pi _)
    ⟨fits (ol rfl),[.int i s.toks,u],.cons ⟨_,rfl⟩ (.cons ru .nil),⟨_,ht1,rfl,_,rfl⟩⟩
  refine⟨_,rfl,wpAny_letOwnedTupleGo_enum heo λh2 he2 hs2=>?_⟩;obtain⟨f0,f1,f2,f3,f4,f5⟩:=hf e (by simp);have I2:=I1.turned (h':=h2) (t':=s.toks+1) (it:=e) (λb o hb q=>(hs2.2 b hb).trans q) (by rw[ak hes];exact heN) f1 f3 f4 f5;refine⟨.ref s.heap.objs.size,_,I2,rfl,⟨_,x,I.hok.fresh (pi _),rfl,rfl,λys hy=>?_⟩,⟨⟨_,by simpa using he2⟩,hit1.at λo q=>(hs2.2 it hei.symm).trans q⟩,λb hb=>?_⟩
  .rw[hq]at hy;cases hy;exact hx
  .have hb':b≠s.heap.objs.size:=by
    rcases mo.mp hb with rfl|hb
    .exact hes
    .have e':b=it:=by simpa using hb
     subst e';exact his
   rw[ak hb'];exact(hf b hb).1
 done:=by
  intro X hP hw hK hc i Y s U H E I hf st hg;subst hP hw hK;obtain⟨xs,hq,hx⟩:=hg;obtain⟨⟨old,he⟩,hit⟩:=st;obtain⟨its,rv,p,hz⟩:=I.list (bj.of hq);obtain⟨f0,f1,f2,f3,f4,f5⟩:=hf it (by simp);have hl:=rv.length;exact wpAny_pyNext_enum_end (I.ok.hd hc) he hit p.isList (by simp;omega) λh' eb=>⟨rfl,I.turned (t':=s.toks) (λb o hb q=>eb b o hb q) f0 f1 f3 f4 f5⟩
 self:=λ_ _ _ _ _ st h=>by
  obtain⟨⟨old,he⟩,hit⟩:=st;exact wpAny_pyIter_enum he h
def n6:bootBuiltins "enumerate"=some (.type "enumerate"):=by decide+kernel
abbrev Io (ta:TA):TI:=λU H R=>ta U H λvs H1=>∃ l,vs=[.ref l]/\(∃ xs,H1 l=some (.lst xs))/\R (GV l) H1
def BA {k:Nat}{a:Expr}{ta:TA}{p pos':Pos}(hg:Gl X "enumerate") (hm:X.mg "enumerate"=none) (ha:PA X [a] ta) (hs:bm [a] X.env=[(false,eval a X.env)]:=by rfl):
  PI X (.Tuple elts k pos') (.Call (.Name "enumerate" p) [a] [] pos) (Io ta):=by
 intro Y s U H R I h;refine Call_ (cB I hg hm n6 (PyProof.Rows.callWith_type1 (aA (ha pos Y s U H _ I h) λus s1 ⟨vs,H1,I1,r1,q1⟩=>?_) hs rfl));obtain⟨l,e,⟨xs,hl⟩,q⟩:=q1;subst e;cases r1 with
 |cons r rr=>
  cases rr;cases r;obtain⟨z,its,n,r,hlen,e⟩:=I1.oZ hl;refine call_enumerate_1 e λh' he hit hsz hk=>?_
  refine wpAny_pyIter_enum he ?_;refine⟨s1.heap.objs.size+1,[s1.heap.objs.size+1,s1.heap.objs.size],_,_,H1,rfl,I1.kept (t':=s1.toks) hk,vB l _ _ (Nat.succ_ne_self _),⟨⟨_,he⟩,hit⟩,λb hb=>?_,q⟩;have hb':s1.heap.objs.size<=b:=by
   rcases mo.mp hb with rfl|hb
   .exact Nat.le_succ _
   .have e':b=s1.heap.objs.size:=by simpa using hb
    exact Nat.le_of_eq e'.symm
  exact I1.zt hb' (I1.hok.fresh hb')
section
variable {g:TG}{tb:TS}{D:Ends}{U:St}{H:Hp}{ta:TA}
end
section
variable {X:Cx}
end
section
variable {K:W.Frag}{r:V->List V->Hp->VK->Prop}{to:TE}{t:TA}{U:St}{H:Hp}{Q:VK}
end
section
variable {H H1 H2:Hp}{p h c:Addr}{o:HO}{m:Int}
end
section
variable {H H':Hp}{xs ys:List V}{f:Nat->Int×Int}
end
section
variable {X:Cx}{a b c d:Expr}{ta tb tc td:TE}{pos:Pos}
end
section
variable {K:W.Frag}{U:St}{H:Hp}{Q:VK}{ta tb tc td tv:TE}{t:TA}{f m:Str}{D:Ends}{C:Addr}{sp:Sp}{dvs:List V}{E:XK}
end
section
variable {g:TG}{tb:TS}{D:Ends}{U:St}{H:Hp}{ta:TA}
end
section
variable {C:Addr}{H H':Hp}{S D h c:Addr}{rs:List Rec}{r:Rec}
end
section
variable {X:Cx}
end
end L2
namespace L2
end L2
namespace L2
open PySem PySem.Spec PyProof.Rows
section
variable {C:Addr}{H HF:Hp}{S D h c:Addr}{rs:List Rec}{r':Rec}
end
section
variable {X:Cx}
end
structure JK (K:W.Frag) (C:Addr):Prop where
 ha:W.findIn K (.ref C) "__class__"=some (some (.builtin "object.__class__"))
 hn:W.specialIn K (.builtin "object.__class__") "__get__"=some (some (.builtin "getset_descriptor.__get__"))
 htk:W.takesIn K (.builtin "object.__class__")=some true
 hm:W.mroIn K C (.type "object")=some true
end L2
namespace L2
open PySem PySem.Spec PySem.W PyProof.Rows
abbrev bh (tp:Bool)(h:Heap)(j b:Addr)(k:Nat):Prop:=match tp with
 |true=>h.IsTupleIter j b k
 |false=>h.IsListIter j b k
abbrev bI (tp:Bool)(h:Heap)(b:Addr)(xs:Array Value):Prop:=match tp with
 |true=>h.IsTuple b xs
 |false=>h.IsList b xs
variable {tp:Bool}{h:Heap}{k:Nat}
def bh.to {h':Heap}{j b:Addr}(g:bh tp h j b k)(e:∀ o,h.get? j=some o->h'.get? j=some o):bh tp h' j b k:=by
 cases tp
 .obtain⟨o,e1,r⟩:=(show h.IsListIter j b k from g);exact⟨o,e o e1,r⟩
 .obtain⟨o,e1,r⟩:=(show h.IsTupleIter j b k from g);exact⟨o,e o e1,r⟩
def bI.to {h':Heap}{b:Addr}{xs:Array Value}(g:bI tp h b xs)(e:∀ o,h.get? b=some o->h'.get? b=some o):bI tp h' b xs:=by
 cases tp
 .obtain⟨o,e1,r⟩:=(show h.IsList b xs from g);exact⟨o,e o e1,r⟩
 .obtain⟨o,e1,r⟩:=(show h.IsTuple b xs from g);exact⟨o,e o e1,r⟩
def bh.lt {tp:Bool}{h:Heap}{j b:Addr}{k:Nat}(g:bh tp h j b k):j<h.objs.size:=by
 cases tp
 .obtain⟨o,e1,r⟩:=(show h.IsListIter j b k from g);exact tz e1
 .obtain⟨o,e1,r⟩:=(show h.IsTupleIter j b k from g);exact tz e1
def bI.lt {tp:Bool}{h:Heap}{b:Addr}{xs:Array Value}(g:bI tp h b xs):b<h.objs.size:=by
 cases tp
 .obtain⟨o,e1,r⟩:=(show h.IsList b xs from g);exact tz e1
 .obtain⟨o,e1,r⟩:=(show h.IsTuple b xs from g);exact tz e1
variable {Q:Option Value->Shared->Prop}{c:Addr}{T:Int}{fb:Bool}{oT:Obj}{elts:List Expr}{pos:Pos}
section
variable {prog:Program}{w:World}{A:Around}{E:LD}{s:Shared}
def FU {j b:Addr}{xs:Array Value}{x:Value}{Q:LD}(g:s.heap.IsTupleIter j b k)(t:s.heap.IsTuple b xs)(hx:xs[k]? =some x)
  (q:∀ h',h'.IsTupleIter j b (k+1)->Heap.SameBut j s.heap h'->Q x { s with heap:=h' }):wpAny (model prog w) A (Builtin.SmallTypes.nextOf (.ref j)) Q E s:=by
 obtain⟨o1,e1,c1,d1⟩:=id g;obtain⟨o2,e2,_,n2,d2⟩:=t;unfold Builtin.SmallTypes.nextOf;refine ad (wpAny_callSpecial?_slot (name:=Str.ofString "__next__") g.typeIs F.slot_tuple_iterator_next (wpAny_call_entry F.slot_tuple_iterator_next g.typeIs F.entry_tuple_iterator_next ?_ (F.args_tuple_iterator_next_1 _)));show wpAny _ _ (field (.ref j) 0 >>= _) _ _ s;refine ad (ap e1 d1 (x:=.ref b) rfl ?_);show wpAny _ _ (if(Value.ref b ==Value.none)=true then _ else _) _ _ s;rw[if_neg (show ¬ ((Value.ref b ==Value.none)=true) from Bool.false_ne_true)];show wpAny _ _ (field (.ref j) 1 >>= _) _ _ s;refine ad (ap e1 d1 (x:=.int k 0) rfl ?_);show wpAny _ _ (seqItems? (.ref b) >>= _) _ _ s;refine ad (wpAny_seqItems e2 d2 ?_);simp only[re,hx];refine ad (wpAny_setField e1 d1 (by simp) (am ⟨x,rfl,am (q _ ?_ (Heap.SameBut.update ..))⟩));refine⟨_,Heap.get?_update_self _ e1 (Obj.isFreed_of_fields (Obj.data_mapFields d1 _)),(Obj.cls_mapFields ..).trans c1,?_⟩;rw[Obj.data_mapFields d1];simp[rawInt]
def B1 {j b:Addr}{xs:Array Value}{Q:LD}(hh:A.handled=none)(g:s.heap.IsTupleIter j b k)(t:s.heap.IsTuple b xs)(hx:xs[k]? =none)
  (q:∀ h' e,Heap.ExtBut j s.heap h'->(∃ o,h'.get? e=some o/\o.cls=.type "StopIteration")->E (.ref e) { s with heap:=h' }):wpAny (model prog w) A (Builtin.SmallTypes.nextOf (.ref j)) Q E s:=by
 obtain⟨o1,e1,c1,d1⟩:=id g;obtain⟨o2,e2,_,n2,d2⟩:=t;unfold Builtin.SmallTypes.nextOf;refine ad (wpAny_callSpecial?_slot (name:=Str.ofString "__next__") g.typeIs F.slot_tuple_iterator_next (wpAny_call_entry F.slot_tuple_iterator_next g.typeIs F.entry_tuple_iterator_next ?_ (F.args_tuple_iterator_next_1 _)));show wpAny _ _ (field (.ref j) 0 >>= _) _ _ s;refine ad (ap e1 d1 (x:=.ref b) rfl ?_);show wpAny _ _ (if(Value.ref b ==Value.none)=true then _ else _) _ _ s;rw[if_neg (show ¬ ((Value.ref b ==Value.none)=true) from Bool.false_ne_true)];show wpAny _ _ (field (.ref j) 1 >>= _) _ _ s;refine ad (ap e1 d1 (x:=.int k 0) rfl ?_);show wpAny _ _ (seqItems? (.ref b) >>= _) _ _ s;refine ad (wpAny_seqItems e2 d2 ?_);simp only[re,hx];refine ad (wpAny_rule (ad (wpAny_setField e1 d1 (by simp) ?_)));show wpAny _ _ (newExc (.type "StopIteration") [] >>= _) _ _ _;refine ad ?_;simp only[newExc,newTuple];refine ad (wpAny_newObj_type ?_ (by size_fits));refine ad (m:=firstArgMember _ _) (wpAny_of_eq (a:=Value.none) (by first|rfl|(simp only[firstArgMember];rfl)) ?_);refine wpAny_newObj_type ?_ (by size_fits);simp only[raiseNew];refine ad (wpAny_handled ?_);first|rw[show A.in1.handled=none from hh]|rw[hh]
 refine ad (am (wpAny_throw ?_));exact q _ _ (((Heap.SameBut.update ..).extBut.push _).push _) ⟨_,ul _ rfl,rfl⟩
def fk {j b:Addr}{xs:Array Value}{x:Value}{Q:LD}(g:bh tp s.heap j b k)(t:bI tp s.heap b xs)(hx:xs[k]? =some x)
  (q:∀ h',bh tp h' j b (k+1)->Heap.SameBut j s.heap h'->Q x { s with heap:=h' }):wpAny (model prog w) A (Builtin.SmallTypes.nextOf (.ref j)) Q E s:=by
 cases tp
 .exact wpAny_nextOf_list_item g t hx q
 .exact FU g t hx q
def ot {j b:Addr}{xs:Array Value}{Q:LD}(hh:A.handled=none)(g:bh tp s.heap j b k)(t:bI tp s.heap b xs)(hx:xs[k]? =none)
  (q:∀ h' e,Heap.ExtBut j s.heap h'->(∃ o,h'.get? e=some o/\o.cls=.type "StopIteration")->E (.ref e) { s with heap:=h' }):wpAny (model prog w) A (Builtin.SmallTypes.nextOf (.ref j)) Q E s:=by
 cases tp
 .exact wpAny_nextOf_list_end hh g t hx q
 .exact B1 hh g t hx q
@[reducible]def bM (h:Heap) (z TI TO:Addr) (f0 f1:Value):Prop:=h.get? z=some { cls:=.type "zip",dict:=none,data:=.fields #[f0,f1,.bool false,.ref TI,.ref TO],slots:=#[] }
variable {z TI TO i1 i2 l1 l2:Addr}{k1 k2:Nat}{tp1 tp2:Bool}{xs ys:Array Value}{x y a b f1:Value}
def ux (D:ZipApart z TI TO i1 i2 l1 l2)(hz:bM s.heap z TI TO .none f1)(hI:IsPair s.heap TI (.ref i1) (.ref i2))(hO:IsPair s.heap TO a b)
  (g1:bh tp1 s.heap i1 l1 k1) (g2:bh tp2 s.heap i2 l2 k2) (t1:bI tp1 s.heap l1 xs) (t2:bI tp2 s.heap l2 ys) (hx:xs[k1]? =some x) (hy:ys[k2]? =some y)
  (q:∀ h',bM h' z TI TO (rawInt s.heap.objs.size) (.bool false)->IsPair h' TO x y->bh tp1 h' i1 l1 (k1+1)->bh tp2 h' i2 l2 (k2+1)->IsPair h' s.heap.objs.size x y->h'.objs.size=s.heap.objs.size+1->
   (∀ c o,c≠z->c≠TO->c≠i1->c≠i2->s.heap.get? c=some o->h'.get? c=some o)->Q (some (.ref s.heap.objs.size)) { s with heap:=h' }):wpAny (model prog w) A (pyNext (.ref z)) Q E s:=by
 have hZ:s.TypeIs (.ref z) "zip":=⟨_,hz,rfl⟩;unfold pyNext;refine ad (wpAny_attempt (wpAny_callSpecial?_slot (name:=Str.ofString "__next__") hZ F.slot_zip_next (wpAny_call_entry F.slot_zip_next hZ F.entry_zip_next ?_ (F.args_zip_next_1 _))));show wpAny _ _ (field (.ref z) 2 >>= _) _ _ _;refine ad (ap (x:=.bool false) hz rfl rfl ?_);show wpAny _ _ (field (.ref z) 3 >>= _) _ _ _;refine ad (ap (x:=.ref TI) hz rfl rfl ?_);refine ad (wpAny_seqItems hI rfl ?_);show wpAny _ _ (Builtin.SmallTypes.ownedTupleIsFree (.ref z) >>= _) _ _ _;refine ad ?_;unfold Builtin.SmallTypes.ownedTupleIsFree;refine ad (ap (x:=.none) hz rfl rfl (am ?_));simp only[if_true];refine ad (wpAny_rule ?_);refine ad (ap (x:=.ref TO) hz rfl rfl ?_);refine ad (wpAny_setField_rec hz (by simp) λp1 z1 b1=>?_)
 replace z1:bM p1 z TI TO .ellipsis f1:=z1
 refine ad ?_;simp only[List.zipIdx_cons,List.zipIdx_nil,forIn_cons,forIn_nil];refine ad (ad (wpAny_onRaise ?_));show wpAny _ _ (Builtin.SmallTypes.nextOf (.ref i1) >>= _) _ _ _;refine ad (fk (g1.to λo e=>b1.extBut _ o D.i1z e) (t1.to λo e=>b1.extBut _ o D.l1z e) hx λp2 g1b b2=>am ?_);have hO2:IsPair p2 TO a b:=b2.extBut _ _ D.TOi1 (b1.extBut _ _ D.TOz hO);refine ad (wpAny_seqItems hO2 rfl ?_);refine ad (wpAny_updateSeq_pair hO2 λp3 hO3 b3=>?_)
 replace hO3:IsPair p3 TO x b:=hO3
 refine ad (wpAny_letGo (am ?_));refine ad (ad (wpAny_onRaise ?_));show wpAny _ _ (Builtin.SmallTypes.nextOf (.ref i2) >>= _) _ _ _;refine ad (fk (g2.to λo e=>b3.extBut _ o D.TOi2.symm (b2.extBut _ o D.i12.symm (b1.extBut _ o D.i2z e))) (t2.to λo e=>b3.extBut _ o D.l2TO (b2.extBut _ o D.l2i1 (b1.extBut _ o D.l2z e))) hy λp4 g2b b4=>am ?_);have hO4:IsPair p4 TO x b:=b4.extBut _ _ D.TOi2 hO3;refine ad (wpAny_seqItems hO4 rfl ?_);refine ad (wpAny_updateSeq_pair hO4 λp5 hO5 b5=>?_)
 replace hO5:IsPair p5 TO x y:=hO5
 refine ad (wpAny_letGo (am (am ?_)));refine ad (wpAny_seqItems hO5 rfl ?_);refine ad (wpAny_newTuple ?_);have hsz:p5.objs.size=s.heap.objs.size:=by rw[b5.1,b4.1,b3.1,b2.1,b1.1]
 have z5:bM p5 z TI TO .ellipsis f1:=b5.extBut _ _ D.TOz.symm (b4.extBut _ _ D.i2z.symm (b3.extBut _ _ D.TOz.symm (b2.extBut _ _ D.i1z.symm z1)));have k5:∀ c o,c≠z->c≠TO->c≠i1->c≠i2->s.heap.get? c=some o->p5.get? c=some o:=λc o n1 n2 n3 n4 e=>b5.extBut _ _ n2 (b4.extBut _ _ n4 (b3.extBut _ _ n2 (b2.extBut _ _ n3 (b1.extBut _ _ n1 e))))
 have g15:bh tp1 p5 i1 l1 (k1+1):=g1b.to λo e=>b5.extBut _ o D.TOi1.symm (b4.extBut _ o D.i12 (b3.extBut _ o D.TOi1.symm e))
 have g25:bh tp2 p5 i2 l2 (k2+1):=g2b.to λo e=>b5.extBut _ o D.TOi2.symm e
 have zlt:z<p5.objs.size:=tz z5;show wpAny _ _ (Builtin.SmallTypes.ownedTupleHandOut (.ref z) (.ref p5.objs.size) >>= _) _ _ _;refine ad ?_;unfold Builtin.SmallTypes.ownedTupleHandOut;have z6:bM (p5.push { cls:=.type "tuple",data:=.seq #[x,y] }) z TI TO .ellipsis f1:=sK _ z5;refine ad (wpAny_setField_rec z6 (by simp) λp7 z7 b7=>?_)
 replace z7:bM p7 z TI TO (rawInt p5.objs.size) f1:=z7
 refine wpAny_setField_rec z7 (by simp) λp8 z8 b8=>?_
 replace z8:bM p8 z TI TO (rawInt p5.objs.size) (.bool false):=z8
 have up:∀ c o,c≠z->p5.get? c=some o->p8.get? c=some o:=λc o n1 e=>b8.extBut _ _ n1 (b7.extBut _ _ n1 (sK _ e))
 have hT:IsPair p8 p5.objs.size x y:=b8.extBut _ _ (Nat.ne_of_gt zlt) (b7.extBut _ _ (Nat.ne_of_gt zlt) (ul _ rfl));have h8:p8.objs.size=p5.objs.size+1:=by rw[b8.1,b7.1,Heap.size_push]
 rw[hsz]at z8 hT h8;refine am ⟨_,rfl,?_⟩;rw[hsz];exact am (q p8 z8 (up _ _ D.TOz hO5) (g15.to λo e=>up _ o D.i1z e) (g25.to λo e=>up _ o D.i2z e) hT h8 λc o n1 n2 n3 n4 e=>up c o n1 (k5 c o n1 n2 n3 n4 e))
def D9 {Q:Fin->Shared->Prop}(hh:A.handled=none)(D:ZipApart z TI TO i1 i2 l1 l2)(hz:bM s.heap z TI TO .none f1)(hI:IsPair s.heap TI (.ref i1) (.ref i2))(hO:IsPair s.heap TO a b)
  (g1:bh tp1 s.heap i1 l1 k1) (g2:bh tp2 s.heap i2 l2 k2) (t1:bI tp1 s.heap l1 xs) (t2:bI tp2 s.heap l2 ys) (hx:xs[k1]? =none\/ys[k2]? =none)
  (q:∀ h' e,(∀ c o,c≠z->c≠TO->c≠i1->c≠i2->s.heap.get? c=some o->h'.get? c=some o)->(∃ o,h'.get? e=some o/\o.cls=.type "StopIteration")->E (.ref e) { s with heap:=h' }):
  wpAny (model prog w) A (Builtin.«zip.__next__» ⟨[.ref z],[]⟩) Q E s:=by
 show wpAny _ _ (field (.ref z) 2 >>= _) _ _ _;refine ad (ap (x:=.bool false) hz rfl rfl ?_);show wpAny _ _ (field (.ref z) 3 >>= _) _ _ _;refine ad (ap (x:=.ref TI) hz rfl rfl ?_);refine ad (wpAny_seqItems hI rfl ?_);show wpAny _ _ (Builtin.SmallTypes.ownedTupleIsFree (.ref z) >>= _) _ _ _;refine ad ?_;unfold Builtin.SmallTypes.ownedTupleIsFree;refine ad (ap (x:=.none) hz rfl rfl (am ?_));simp only[if_true];refine ad (wpAny_rule ?_);refine ad (ap (x:=.ref TO) hz rfl rfl ?_);refine ad (wpAny_setField_rec hz (by simp) λp1 z1 b1=>?_)
 replace z1:bM p1 z TI TO .ellipsis f1:=z1
 refine ad ?_;simp only[List.zipIdx_cons,List.zipIdx_nil,forIn_cons,forIn_nil];refine ad (ad (wpAny_onRaise ?_));show wpAny _ _ (Builtin.SmallTypes.nextOf (.ref i1) >>= _) _ _ _;cases e1:xs[k1]? with
 |none=>
  refine ad (ot hh (g1.to λo e=>b1.extBut _ o D.i1z e) (t1.to λo e=>b1.extBut _ o D.l1z e) e1 λp2 e b2 he=>?_);obtain⟨oe,ho,hc⟩:=he;have z2:bM p2 z TI TO .ellipsis f1:=b2 _ _ D.i1z.symm z1;have ne:e≠z:=λn=>by subst n;rw[z2]at ho;cases ho;simp at hc
  exact wpAny_setField_rec z2 (by simp) λp3 _ b3=>q p3 e (λc o n1 _ n3 _ v=>b3.extBut _ _ n1 (b2 _ _ n3 (b1.extBut _ _ n1 v))) ⟨oe,b3.extBut _ _ ne ho,hc⟩
 |some x=>
  have e2:ys[k2]? =none:=by rcases hx with h|h;(rw[e1]at h;cases h);exact h
  refine ad (fk (g1.to λo e=>b1.extBut _ o D.i1z e) (t1.to λo e=>b1.extBut _ o D.l1z e) e1 λp2 g1b b2=>am ?_);have hO2:IsPair p2 TO a b:=b2.extBut _ _ D.TOi1 (b1.extBut _ _ D.TOz hO);refine ad (wpAny_seqItems hO2 rfl ?_);refine ad (wpAny_updateSeq_pair hO2 λp3 hO3 b3=>?_);refine ad (wpAny_letGo (am ?_));refine ad (ad (wpAny_onRaise ?_));show wpAny _ _ (Builtin.SmallTypes.nextOf (.ref i2) >>= _) _ _ _;refine ad (ot hh (g2.to λo e=>b3.extBut _ o D.TOi2.symm (b2.extBut _ o D.i12.symm (b1.extBut _ o D.i2z e))) (t2.to λo e=>b3.extBut _ o D.l2TO (b2.extBut _ o D.l2i1 (b1.extBut _ o D.l2z e))) e2 λp4 e b4 he=>?_);obtain⟨oe,ho,hc⟩:=he;have z4:bM p4 z TI TO .ellipsis f1:=b4 _ _ D.i2z.symm (b3.extBut _ _ D.TOz.symm (b2.extBut _ _ D.i1z.symm z1));have ne:e≠z:=λn=>by subst n;rw[z4]at ho;cases ho;simp at hc
  exact wpAny_setField_rec z4 (by simp) λp5 _ b5=>q p5 e (λc o n1 n2 n3 n4 v=>b5.extBut _ _ n1 (b4 _ _ n4 (b3.extBut _ _ n2 (b2.extBut _ _ n3 (b1.extBut _ _ n1 v))))) ⟨oe,b5.extBut _ _ ne ho,hc⟩
def pd {Q:Option Obj->Shared->Prop}(h:Q (s.heap.get? c) s):wpAny (model prog w) A (loadIfAlive c) Q E s:=λ_ _ _=>h
variable {t:Tok}
def qG {Q:Bool->Shared->Prop}(hz:bM s.heap z TI TO (.int T t) (.bool fb))(hT:s.heap.get? T.toNat=some oT)(q:∀ h',bM h' z TI TO (.int T t) (.bool true)->Heap.SameBut z s.heap h'->Q false { s with heap:=h' }):
  wpAny (model prog w) A (Builtin.SmallTypes.ownedTupleIsFree (.ref z)) Q E s:=by
 unfold Builtin.SmallTypes.ownedTupleIsFree;refine ad (ap (x:=.int T t) hz rfl rfl ?_);refine ad (pd ?_);rw[hT];refine ad (ap (x:=.bool fb) hz rfl rfl ?_);cases fb
 .refine ad (wpAny_setField_rec hz (by simp) λp1 z1 b1=>am ?_);exact q p1 z1 b1
 .exact ad (am (am (q s.heap hz (Heap.SameBut.refl ..))))
def Ad (D:ZipApart z TI TO i1 i2 l1 l2)(hz:bM s.heap z TI TO (.int T t) (.bool fb))(hT:s.heap.get? T.toNat=some oT)(hI:IsPair s.heap TI (.ref i1) (.ref i2))
  (g1:bh tp1 s.heap i1 l1 k1) (g2:bh tp2 s.heap i2 l2 k2) (t1:bI tp1 s.heap l1 xs) (t2:bI tp2 s.heap l2 ys) (hx:xs[k1]? =some x) (hy:ys[k2]? =some y)
  (q:∀ h',bM h' z TI TO (.int T t) (.bool true)->bh tp1 h' i1 l1 (k1+1)->bh tp2 h' i2 l2 (k2+1)->IsPair h' s.heap.objs.size x y->h'.objs.size=s.heap.objs.size+1->
   (∀ c o,c≠z->c≠i1->c≠i2->s.heap.get? c=some o->h'.get? c=some o)->Q (some (.ref s.heap.objs.size)) { s with heap:=h' }):wpAny (model prog w) A (pyNext (.ref z)) Q E s:=by
 have hZ:s.TypeIs (.ref z) "zip":=⟨_,hz,rfl⟩;unfold pyNext;refine ad (wpAny_attempt (wpAny_callSpecial?_slot (name:=Str.ofString "__next__") hZ F.slot_zip_next (wpAny_call_entry F.slot_zip_next hZ F.entry_zip_next ?_ (F.args_zip_next_1 _))));show wpAny _ _ (field (.ref z) 2 >>= _) _ _ _;refine ad (ap (x:=.bool false) hz rfl rfl ?_);show wpAny _ _ (field (.ref z) 3 >>= _) _ _ _;refine ad (ap (x:=.ref TI) hz rfl rfl ?_);refine ad (wpAny_seqItems hI rfl ?_);show wpAny _ _ (Builtin.SmallTypes.ownedTupleIsFree (.ref z) >>= _) _ _ _;refine ad (qG hz hT λp1 z1 b1=>?_);simp only[Bool.false_eq_true,if_false];simp only[List.forIn_toArray,forIn_cons,forIn_nil];refine ad (ad (ad (bd ?_)));show wpAny _ _ (Builtin.SmallTypes.nextOf (.ref i1) >>= _) _ _ _;refine ad (fk (g1.to λo e=>b1.extBut _ o D.i1z e) (t1.to λo e=>b1.extBut _ o D.l1z e) hx λp2 g1b b2=>am (am ?_));dsimp only;refine ad (ad (bd ?_));show wpAny _ _ (Builtin.SmallTypes.nextOf (.ref i2) >>= _) _ _ _;refine ad (fk (g2.to λo e=>b2.extBut _ o D.i12.symm (b1.extBut _ o D.i2z e)) (t2.to λo e=>b2.extBut _ o D.l2i1 (b1.extBut _ o D.l2z e)) hy λp3 g2b b3=>am (am (am ?_)));dsimp only;refine ad (wpAny_newTuple ?_ (hsz:=fits (ol rfl)));have hsz:p3.objs.size=s.heap.objs.size:=by rw[b3.1,b2.1,b1.1]
 refine am ⟨_,rfl,?_⟩;have z3:bM p3 z TI TO (.int T t) (.bool true):=b3.extBut _ _ D.i2z.symm (b2.extBut _ _ D.i1z.symm z1);rw[hsz];refine am (q _ (sK _ z3) (g1b.to λo e=>sK _ (b3.extBut _ o D.i12 e)) (g2b.to λo e=>sK _ e) (by rw[<-hsz];exact ul _ rfl) (by rw[Heap.size_push,hsz]) λc o n1 n2 n3 e=>?_);exact sK _ (b3.extBut _ _ n3 (b2.extBut _ _ n2 (b1.extBut _ _ n1 e)))
def yZ {Q:Fin->Shared->Prop}(hh:A.handled=none)(D:ZipApart z TI TO i1 i2 l1 l2)(hz:bM s.heap z TI TO (.int T t) (.bool fb))(hT:s.heap.get? T.toNat=some oT)(hI:IsPair s.heap TI (.ref i1) (.ref i2))
  (g1:bh tp1 s.heap i1 l1 k1) (g2:bh tp2 s.heap i2 l2 k2) (t1:bI tp1 s.heap l1 xs) (t2:bI tp2 s.heap l2 ys) (hx:xs[k1]? =none\/ys[k2]? =none)
  (q:∀ h' e,(∀ c o,c≠z->c≠i1->c≠i2->s.heap.get? c=some o->h'.get? c=some o)->(∃ o,h'.get? e=some o/\o.cls=.type "StopIteration")->E (.ref e) { s with heap:=h' }):
  wpAny (model prog w) A (Builtin.«zip.__next__» ⟨[.ref z],[]⟩) Q E s:=by
 show wpAny _ _ (field (.ref z) 2 >>= _) _ _ _;refine ad (ap (x:=.bool false) hz rfl rfl ?_);show wpAny _ _ (field (.ref z) 3 >>= _) _ _ _;refine ad (ap (x:=.ref TI) hz rfl rfl ?_);refine ad (wpAny_seqItems hI rfl ?_);show wpAny _ _ (Builtin.SmallTypes.ownedTupleIsFree (.ref z) >>= _) _ _ _;refine ad (qG hz hT λp1 z1 b1=>?_);simp only[Bool.false_eq_true,if_false];simp only[List.forIn_toArray,forIn_cons,forIn_nil];refine ad (ad (ad (bd ?_)));show wpAny _ _ (Builtin.SmallTypes.nextOf (.ref i1) >>= _) _ _ _;cases e1:xs[k1]? with
 |none=>exact ad (ot hh (g1.to λo e=>b1.extBut _ o D.i1z e) (t1.to λo e=>b1.extBut _ o D.l1z e) e1 λp2 e b2 he=>q p2 e (λc o n1 n2 n3 v=>b2 _ _ n2 (b1.extBut _ _ n1 v)) he)
 |some x=>
  have e2:ys[k2]? =none:=by rcases hx with h|h;(rw[e1]at h;cases h);exact h
  refine ad (fk (g1.to λo e=>b1.extBut _ o D.i1z e) (t1.to λo e=>b1.extBut _ o D.l1z e) e1 λp2 g1b b2=>am (am ?_));dsimp only;refine ad (ad (bd ?_));show wpAny _ _ (Builtin.SmallTypes.nextOf (.ref i2) >>= _) _ _ _;exact ad (ot hh (g2.to λo e=>b2.extBut _ o D.i12.symm (b1.extBut _ o D.i2z e)) (t2.to λo e=>b2.extBut _ o D.l2i1 (b1.extBut _ o D.l2z e)) e2 λp4 e b4 he=>q p4 e (λc o n1 n2 n3 v=>b4 _ _ n3 (b2.extBut _ _ n2 (b1.extBut _ _ n1 v))) he)
def yR (hh:A.handled=none)(D:ZipApart z TI TO i1 i2 l1 l2)(hz:bM s.heap z TI TO .none f1)(hI:IsPair s.heap TI (.ref i1) (.ref i2))(hO:IsPair s.heap TO a b)
  (g1:bh tp1 s.heap i1 l1 k1) (g2:bh tp2 s.heap i2 l2 k2) (t1:bI tp1 s.heap l1 xs) (t2:bI tp2 s.heap l2 ys) (hx:xs[k1]? =none\/ys[k2]? =none)
  (q:∀ h',(∀ c o,c≠z->c≠TO->c≠i1->c≠i2->s.heap.get? c=some o->h'.get? c=some o)->Q none { s with heap:=h' }):wpAny (model prog w) A (pyNext (.ref z)) Q E s:=by
 have hT:s.TypeIs (.ref z) "zip":=⟨_,hz,rfl⟩;unfold pyNext;refine ad (wpAny_attempt (wpAny_callSpecial?_slot (name:=Str.ofString "__next__") hT F.slot_zip_next (wpAny_call_entry F.slot_zip_next hT F.entry_zip_next (D9 hh D hz hI hO g1 g2 t1 t2 hx λh' e k ⟨o,ho,hc⟩=>?_) (F.args_zip_next_1 _))));exact ad (wpAny_isInstance (T:="StopIteration") (b:=true) ⟨o,ho,hc⟩ isSubtype_stop (am (q _ k)))
def xo (hh:A.handled=none)(D:ZipApart z TI TO i1 i2 l1 l2)(hz:bM s.heap z TI TO (.int T t) (.bool fb))(hT:s.heap.get? T.toNat=some oT)(hI:IsPair s.heap TI (.ref i1) (.ref i2))
  (g1:bh tp1 s.heap i1 l1 k1) (g2:bh tp2 s.heap i2 l2 k2) (t1:bI tp1 s.heap l1 xs) (t2:bI tp2 s.heap l2 ys) (hx:xs[k1]? =none\/ys[k2]? =none)
  (q:∀ h',(∀ c o,c≠z->c≠i1->c≠i2->s.heap.get? c=some o->h'.get? c=some o)->Q none { s with heap:=h' }):wpAny (model prog w) A (pyNext (.ref z)) Q E s:=by
 have hT':s.TypeIs (.ref z) "zip":=⟨_,hz,rfl⟩;unfold pyNext;refine ad (wpAny_attempt (wpAny_callSpecial?_slot (name:=Str.ofString "__next__") hT' F.slot_zip_next (wpAny_call_entry F.slot_zip_next hT' F.entry_zip_next (yZ hh D hz hT hI g1 g2 t1 t2 hx λh' e k ⟨o,ho,hc⟩=>?_) (F.args_zip_next_1 _))));exact ad (wpAny_isInstance (T:="StopIteration") (b:=true) ⟨o,ho,hc⟩ isSubtype_stop (am (q _ k)))
abbrev zQ (tp:Bool)(c:Addr):Obj:=match tp with
 |true=>{ cls:=.type "tuple_iterator",data:=.fields #[.ref c,.int 0 0] }
 |false=>{ cls:=.type "list_iterator",data:=.fields #[.ref c,.int 0 0] }
def oH {vs:Array Value}{Q:LD}(t:bI tp s.heap c vs)(q:Q (.ref s.heap.objs.size) { s with heap:=s.heap.push (zQ tp c) }):wpAny (model prog w) A (pyIter (.ref c)) Q E s:=by
 cases tp
 .exact wpAny_pyIter_list t q
 .exact wpAny_pyIter_tuple t q
@[reducible]def F7 (a:Array Value):Obj:={ cls:=.type "tuple",data:=.seq a }
@[reducible]def Fe (m n:Addr):Obj:={ cls:=.type "zip",data:=.fields #[.none,.bool false,.bool false,.ref m,.ref n] }
def HG {l:Addr}:(zQ tp l).isFreed=false:=by cases tp<;>rfl
def Gv {n:Nat}(o:Obj)(hn:h.objs.size=n)(ho:o.isFreed=false:=by first|rfl|exact HG):∃ h',h.push o=h'/\h'.get? n=some o/\h'.objs.size=n+1/\∀ c o',h.get? c=some o'->h'.get? c=some o':=
 ⟨_,rfl,hn▸ul _ ho,by rw[Heap.size_push,hn],λ_ _ e=>sK _ e⟩
def KC {i l:Addr}(e:h.get? i=some (zQ tp l)):bh tp h i l 0:=by
 cases tp
 .exact⟨_,e,rfl,rfl⟩
 .exact⟨_,e,rfl,rfl⟩
noncomputable abbrev CN (h:Heap)(tp1 tp2:Bool)(l1 l2:Addr):Heap:=((((h.push (zQ tp1 l1)).push (zQ tp2 l2)).push (F7 #[.ref h.objs.size,.ref (h.objs.size+1)])).push (F7 #[.none,.none])).push (Fe (h.objs.size+2) (h.objs.size+3))
def A4 (tp1 tp2:Bool)(l1 l2:Addr)(xs ys:Array Value):Meets (Builtin.«zip.__new__» ⟨[.type "zip",.ref l1,.ref l2],[]⟩)
  (λ_ R s=>bI tp1 s.heap l1 xs/\bI tp2 s.heap l2 ys/\R (.ok (.ret (.ref (s.heap.objs.size+4)))) { s with heap:=CN s.heap tp1 tp2 l1 l2 }):=.of_wp λprog w A R s h=>by
 obtain⟨hp,g,d,tk,os⟩:=s;obtain⟨t1,t2,q⟩:=h;have hsub:=sub_zip;have t2':bI tp2 (hp.push (zQ tp1 l1)) l2 ys:=t2.to λo e=>sK _ e
 wp_walk using oH (s:=⟨hp,g,d,tk,os⟩) t1,oH (s:=⟨hp.push (zQ tp1 l1),g,d,tk,os⟩) t2'
 refine⟨_,rfl,?_⟩;simp only[Heap.size_push,Nat.add_assoc]at q⊢;exact q
def qi {Q:LD}(t1:bI tp1 s.heap l1 xs)(t2:bI tp2 s.heap l2 ys)
  (q:∀ h',bM h' (s.heap.objs.size+4) (s.heap.objs.size+2) (s.heap.objs.size+3) .none (.bool false)->IsPair h' (s.heap.objs.size+2) (.ref s.heap.objs.size) (.ref (s.heap.objs.size+1))->
   IsPair h' (s.heap.objs.size+3) .none .none->bh tp1 h' s.heap.objs.size l1 0->bh tp2 h' (s.heap.objs.size+1) l2 0->h'.objs.size=s.heap.objs.size+5->
   (∀ c o,s.heap.get? c=some o->h'.get? c=some o)->Q (.ref (s.heap.objs.size+4)) { s with heap:=h' }):
  wpAny (model prog w) A (call (.type "zip") [.ref l1,.ref l2]) Q E s:=by
 refine callType_new F.called_zip (by decide) (F.typeCall_zip_2 _ _) (F.newCall_zip_2 _ _) (λobj=>F.args_object_init_3 obj _ _) F.entry_zip_new (A4 tp1 tp2 l1 l2 xs ys) ⟨t1,t2,?_⟩;generalize hn:s.heap.objs.size=n at q⊢;have hz:CN s.heap tp1 tp2 l1 l2=((((s.heap.push (zQ tp1 l1)).push (zQ tp2 l2)).push (F7 #[.ref n,.ref (n+1)])).push (F7 #[.none,.none])).push (Fe (n+2) (n+3)):=by rw[<-hn]
 obtain⟨_,a1,e0,z0,k0⟩:=Gv (zQ tp1 l1) hn;obtain⟨_,a2,e1,z1,k1⟩:=Gv (zQ tp2 l2) z0;obtain⟨_,a3,e2,z2,k2⟩:=Gv (F7 #[.ref n,.ref (n+1)]) z1;obtain⟨_,a4,e3,z3,k3⟩:=Gv (F7 #[.none,.none]) z2;obtain⟨_,a5,e4,z4,k4⟩:=Gv (Fe (n+2) (n+3)) z3;rw[hz,a1,a2,a3,a4,a5];exact⟨⟨_,e4,rfl⟩,q _ e4 (k4 _ _ (k3 _ _ e2)) (k4 _ _ e3) ((KC e0).to λo e=>k4 _ _ (k3 _ _ (k2 _ _ (k1 _ _ e)))) ((KC e1).to λo e=>k4 _ _ (k3 _ _ (k2 _ _ e))) z4 λc o e=>k4 _ _ (k3 _ _ (k2 _ _ (k1 _ _ (k0 _ _ e))))⟩
def wW {n:Addr}(a1:l1<n)(a2:l2<n):ZipApart (n+4) (n+2) (n+3) n (n+1) l1 l2:=by
 constructor<;>(intro e;have e':=(show @Eq Nat _ _ from e);have b1:=(show @LT.lt Nat _ l1 n from a1);have b2:=(show @LT.lt Nat _ l2 n from a2);omega)
def vG {m:Nat}{T:Addr}{Q:LB}(hz:bM s.heap z TI TO (rawInt T) f1)(q:∀ h',bM h' z TI TO .none f1->Heap.SameBut z s.heap h'->Q () { s with heap:=h' }):
  wpAny (model prog w) A (letOwnedTupleGo (.Tuple elts m pos) (.ref z) (.ref T)) Q E s:=by
 unfold letOwnedTupleGo;refine ad (wpAny_load hz ?_);show wpAny _ _ (if(["enumerate","zip","dict_itemiterator","dict_reverseitemiterator","odict_iterator","itertools.zip_longest","itertools.pairwise"].contains "zip"&&(#[rawInt T,f1,.bool false,.ref TI,.ref TO]:Array Value)[0]? ==some (rawInt T))=true then _ else _) Q E s;rw[if_pos (by simp)];exact ad (wpAny_rule (wpAny_setField_rec hz (by simp) λh' z' b'=>q h' z' b'))
def kB {f0:Value}{Q:LD}(hz:bM s.heap z TI TO f0 f1)(h:Q (.ref z) s):wpAny (model prog w) A (pyIter (.ref z)) Q E s:=by
 have hT:s.TypeIs (.ref z) "zip":=⟨_,hz,rfl⟩;refine wpAny_pyIter_slot hT F.slot_zip_iter (wpAny_call_entry F.slot_zip_iter hT F.entry_zip_iter ?_ (F.args_zip_iter_1 _));show wpAny _ _ (ret (.ref z)) _ _ s;exact am ⟨_,rfl,"zip",_,hT,F.slot_zip_next.lookup,h⟩
end
variable {X:Cx}{Y:LF}{U:St}{H:Hp}{s:Shared}
def Inv.A1 {h':Heap}{t':Nat}{ch:List Addr}(I:Inv X Y U H s)(k:∀ b u,b ∉ ch->s.heap.get? b=some u->h'.get? b=some u) (hf:∀ b ∈ ch,hX X Y H b):Inv X Y U H { s with heap:=h',toks:=t' }:=by
 have nch:∀ b u,H b=some u->b ∉ ch:=λb u e z=>by rw[(hf b z).1]at e;cases e
 refine I.step (g':=s.gens) (d':=s.drawn) (ch:=ch) (λb hb=>?_) (λb o _ _ hc e _=>k b o hc e) (λb o _ _ hc e _=>⟨o.slots,k b o hc e⟩) (λ_ _ _ _ n=>n)
  (λb o hc e=>⟨o,k b o hc e⟩) (λ_ _ e=>e) (λ_ _ _ e=>e) (λb ps e=>⟨#[],by rw[e];simp⟩) (λm hm=>?_) (λb u e=>?_) I.bare
 .obtain⟨_,f1,_,f3,f4,f5⟩:=hf b hb;exact⟨f3,f1,f4,f5⟩
 .obtain⟨o,es,ep,ho,r⟩:=hm;exact⟨o,es,ep,k _ o (λz=>(hf _ z).2.1 rfl) ho,r⟩
 .refine(I.hok b u e).jy (λc v hc q=>k c v ?_ q) (λ_ q=>q) λ_ _ q=>q
  rcases hc with rfl|hc
  .exact nch _ _ e
  .exact nch _ _ hc
abbrev Sq (K:W.Frag)(tp:Bool)(H:Hp)(c:Addr)(xs:List V):Prop:=match tp with
 |true=>bg K H c xs
 |false=>bj K H c xs
def Inv.sq {xs:List V}(I:Inv X Y U H s)(h:Sq X.K tp H c xs):∃ its:List Value,Vals xs its/\bI tp s.heap c its.toArray:=by
 cases tp
 .obtain⟨its,r,p,_⟩:=I.list h;exact⟨its,r,p.isList⟩
 .obtain⟨its,r,p,_⟩:=I.tuple h;exact⟨its,r,p⟩
def Inv.yv {xs ys:List V}(I:Inv X Y U H s)(h:Sq X.K tp H c xs)(h':Sq X.K tp H c ys):xs=ys:=by
 cases tp
 .exact I.kX h h'
 .exact I.hW h h'
abbrev IP (K:W.Frag)(tp1:Bool)(l1:Addr)(tp2:Bool)(l2:Addr):It:=
 ⟨λi H=>∃ xs ys x y,Sq K tp1 H l1 xs/\Sq K tp2 H l2 ys/\xs[i]? =some x/\ys[i]? =some y,
  λi H v H'=>∃ T x y,H T=none/\v=.ref T/\H'=upd H T (.tup [x,y])/\(∀ xs,Sq K tp1 H l1 xs->xs[i]? =some x)/\∀ ys,Sq K tp2 H l2 ys->ys[i]? =some y,
  λi H=>∃ xs ys,Sq K tp1 H l1 xs/\Sq K tp2 H l2 ys/\(xs.length<=i\/ys.length<=i)⟩
def wR {P:Program}{w:World}{K:W.Frag}{tp1 tp2:Bool}{z TI TO i1 i2 l1 l2:Addr}(D:ZipApart z TI TO i1 i2 l1 l2):
  Turn P w K (.Tuple elts k pos) (IP K tp1 l1 tp2 l2) [z,TI,TO,i1,i2] z (λi h=>(∃ f1,bM h z TI TO .none f1)/\IsPair h TI (.ref i1) (.ref i2)/\(∃ a b,IsPair h TO a b)/\bh tp1 h i1 l1 i/\bh tp2 h i2 l2 i) where
 mem:=by simp
 obj:=λi h st b hb=>by
  obtain⟨⟨f1,hz⟩,hI,⟨a,b',hO⟩,g1,g2⟩:=st;have it:∀ {tp:Bool}{j c:Addr}{k:Nat},bh tp h j c k->∃ o,h.get? j=some o/\∀ v,o.data≠.cell v:=λ{tp j c k} g=>by
   cases tp
   .obtain⟨o,e,_,d⟩:=(show h.IsListIter j c k from g);exact⟨o,e,λv z=>by rw[d]at z;cases z⟩
   .obtain⟨o,e,_,d⟩:=(show h.IsTupleIter j c k from g);exact⟨o,e,λv z=>by rw[d]at z;cases z⟩
  simp only[mo,not_mem_nil,or_false]at hb;rcases hb with rfl|rfl|rfl|rfl|rfl
  .exact⟨_,hz,λv e=>by cases(show Data.fields _=Data.cell v from e)⟩
  .exact⟨_,hI,λv e=>by cases(show Data.seq _ _=Data.cell v from e)⟩
  .exact⟨_,hO,λv e=>by cases(show Data.seq _ _=Data.cell v from e)⟩
  .exact it g1
  .exact it g2
 keep:=λi h h' st k=>by
  obtain⟨⟨f1,hz⟩,hI,⟨a,b',hO⟩,g1,g2⟩:=st;exact⟨⟨f1,k z (by simp) _ hz⟩,k TI (by simp) _ hI,⟨a,b',k TO (by simp) _ hO⟩,g1.to λo e=>k i1 (by simp) o e,g2.to λo e=>k i2 (by simp) o e⟩
 item:=by
  intro X hP hw hK hc i Y s U H E I hf st hg;subst hP hw hK;obtain⟨xs,ys,x,y,hq1,hq2,hx,hy⟩:=hg;obtain⟨⟨f1,hz⟩,hI,⟨a,b,hO⟩,g1,g2⟩:=st;obtain⟨is1,r1,t1⟩:=I.sq hq1;obtain⟨is2,r2,t2⟩:=I.sq hq2;obtain⟨u,hu,ru⟩:=r1.get hx;obtain⟨v,hv,rv⟩:=r2.get hy;have n0:∀ {c o},s.heap.get? c=some o->c≠s.heap.objs.size:=λe=>pc (tz e)
  refine ux D hz hI hO g1 g2 t1 t2 (x:=u) (y:=v) (by simpa using hu) (by simpa using hv) λh1 z1 o1 j1 j2 hT hs1 k1=>?_
  have I1:Inv X Y U (upd H s.heap.objs.size (.tup [x,y])) { s with heap:=h1,toks:=s.toks }:=
   I.pM (ch:=[z,TI,TO,i1,i2]) (λb o hb q=>k1 b o (λe=>hb (by simp[e])) (λe=>hb (by simp[e])) (λe=>hb (by simp[e])) (λe=>hb (by simp[e])) q) hf (pi _)
    ⟨fits (ol rfl),[u,v],.cons ru (.cons rv .nil),⟨_,hT,rfl,_,rfl⟩⟩
  refine⟨_,rfl,vG z1 λh2 z2 b2=>?_⟩;obtain⟨f0,f1',f2,f3,f4,f5⟩:=hf z (by simp);have I2:=I1.turned (h':=h2) (t':=s.toks) (it:=z) (λb o hb q=>(b2.2 b hb).trans q) (by rw[ak (n0 hz)];exact f0) f1' f3 f4 f5;refine⟨.ref s.heap.objs.size,_,I2,rfl,⟨_,x,y,I.hok.fresh (pi _),rfl,rfl,λzs hz'=>?_,λzs hz'=>?_⟩,⟨⟨_,z2⟩,?_,⟨_,_,b2.extBut _ _ D.TOz o1⟩,j1.to λo e=>b2.extBut _ o D.i1z e,j2.to λo e=>b2.extBut _ o D.i2z e⟩,λb hb=>?_⟩
  .rw[I.yv hz' hq1];exact hx
  .rw[I.yv hz' hq2];exact hy
  .exact b2.extBut _ _ D.TIz (k1 _ _ D.TIz D.TITO D.TIi1 D.TIi2 hI)
  .have hb':b≠s.heap.objs.size:=by
    simp only[mo,not_mem_nil,or_false]at hb;rcases hb with rfl|rfl|rfl|rfl|rfl
    .exact n0 hz
    .exact n0 hI
    .exact n0 hO
    .exact pc g1.lt
    .exact pc g2.lt
   rw[ak hb'];exact(hf b hb).1
 done:=by
  intro X hP hw hK hc i Y s U H E I hf st hg;subst hP hw hK;obtain⟨xs,ys,hq1,hq2,hx⟩:=hg;obtain⟨⟨f1,hz⟩,hI,⟨a,b,hO⟩,g1,g2⟩:=st;obtain⟨is1,r1,t1⟩:=I.sq hq1;obtain⟨is2,r2,t2⟩:=I.sq hq2;have e1:=r1.length;have e2:=r2.length;refine yR (I.ok.hd hc) D hz hI hO g1 g2 t1 t2 (by simp;omega) λh' k'=>⟨rfl,?_⟩
  exact I.A1 (t':=s.toks) (ch:=[z,TI,TO,i1,i2]) (λb o hb q=>k' b o (λe=>hb (by simp[e])) (λe=>hb (by simp[e])) (λe=>hb (by simp[e])) (λe=>hb (by simp[e])) q) hf
 self:=λ_ _ _ _ _ st h=>by
  obtain⟨⟨f1,hz⟩,_⟩:=st;exact kB hz h
def yC:bootBuiltins "zip"=some (.type "zip"):=by decide+kernel
abbrev G0 (K:W.Frag)(v u:V)(H:Hp)(R:It->Hp->Prop):Prop:=∃ tp1 l1 tp2 l2,v=.ref l1/\u=.ref l2/\(∃ xs,Sq K tp1 H l1 xs)/\(∃ ys,Sq K tp2 H l2 ys)/\R (IP K tp1 l1 tp2 l2) H
abbrev J6 (K:W.Frag)(ta:TA):TI:=λU H R=>ta U H λvs H1=>∃ v u,vs=[v,u]/\G0 K v u H1 R
variable {ta:TA}{p:Pos}
def DY {a b:Expr}{pos':Pos}(hg:Gl X "zip") (hm:X.mg "zip"=none) (ha:PA X [a,b] ta) (hs:bm [a,b] X.env=(false,eval a X.env)::bm [b] X.env:=by rfl) (hpl:(backTo pos (bm [b] X.env)).any (·.1)=false:=by rfl):
  PI X (.Tuple elts k pos') (.Call (.Name "zip" p) [a,b] [] pos) (J6 X.K ta):=by
 intro Y s U H R I h;refine Call_ (cB I hg hm yC (PyProof.Rows.callWith_type1 (aA (ha pos Y s U H _ I h) λus s1 ⟨vs,H1,I1,r1,q1⟩=>?_) hs hpl));obtain⟨v,u,e,tp1,l1,tp2,l2,e1,e2,⟨xs,q1⟩,⟨ys,q2⟩,q⟩:=q1;subst e e1 e2;cases r1 with
 |cons r rr=>
  cases rr with
  |cons r' rr'=>
   cases rr';cases r;cases r';obtain⟨is1,s1',t1⟩:=I1.sq q1;obtain⟨is2,s2',t2⟩:=I1.sq q2;refine qi t1 t2 λh' hz hI hO g1 g2 hsz hk=>?_
   refine kB hz ?_;refine⟨s1.heap.objs.size+4,[s1.heap.objs.size+4,s1.heap.objs.size+2,s1.heap.objs.size+3,s1.heap.objs.size,s1.heap.objs.size+1],_,_,H1,rfl,I1.kept (t':=s1.toks) hk,wR (wW t1.lt t2.lt),⟨⟨_,hz⟩,hI,⟨_,_,hO⟩,g1,g2⟩,λb hb=>?_,q⟩;have hb':s1.heap.objs.size<=b:=by
    simp only[mo,not_mem_nil,or_false]at hb;rcases hb with rfl|rfl|rfl|rfl|rfl<;>first|exact pi _|exact Nat.le_add_right _ _
   exact I1.zt hb' (I1.hok.fresh hb')
def mX:entryFor table "zip.__getattribute__"=some Builtin.«object.__getattribute__»:=entryFor_alias (id':="object.__getattribute__") (by kernel_rfl) (by first|rfl|decide+kernel) (by decide+kernel) (by kernel_rfl)
def qD:typeLookup (.type "zip") "keys"=pure none:=by rw[typeLookup_type,builtinLookup_eq_fast];kernel_rfl
def vH:typeLookup (.type "zip") "__getattr__"=pure none:=by rw[typeLookup_type,builtinLookup_eq_fast];kernel_rfl
def vg (a:Addr)(vs:Array Value)(u:Tok):Meets (Builtin.«object.__getattribute__» ⟨[.ref a,.str "keys" u],[]⟩) (λA R s=>s.heap.get? a=some { cls:=.type "zip",dict:=none,data:=.fields vs,slots:=#[] }/\raisesAttr (.ref a) "keys" A R s):=
 Meets.of_wp λprog w A R s ⟨hx,hs⟩=>by
  obtain⟨hp,g,d,tk,os⟩:=s;have hT:(⟨hp,g,d,tk,os⟩:Shared).TypeIs (.ref a) "zip":=⟨_,hx,rfl⟩;have f4:=qD;unfold Builtin.«object.__getattribute__»
  repeat(any_goals first|assumption|wp_step)
  exact wpAny_raiseAttrError hs.1 hs.2 (attrMsg_fits (by decide+kernel) (by rw[sizeLine_eq];decide+kernel))
section
variable {prog:Program}{w:World}{A:Around}{E:LD}{s:Shared}{a:Addr}{vs:Array Value}
def w9 (hA:A.handled=none)(hx:s.heap.get? a=some { cls:=.type "zip",dict:=none,data:=.fields vs,slots:=#[] })
  (q:∀ h' t',(∀ c u,s.heap.get? c=some u->h'.get? c=some u)->Q none { s with heap:=h',toks:=t' }):wpAny (model prog w) A (getAttr? (.ref a) "keys") Q E s:=by
 obtain⟨hp,g,d,tk,os⟩:=s;have hT:∀ t',(⟨hp,g,d,t',os⟩:Shared).TypeIs (.ref a) "zip":=λ_=>⟨_,hx,rfl⟩
 have f1:=sub_AttributeError;have f3:=PySem.F.slot_zip_getattribute.lookup;have f4:=PySem.F.slot_zip_getattribute.bind (.ref a);have f5:=vH;unfold getAttr? getAttrBy? getAttrBy
 repeat(any_goals first|assumption|((with_reducible show wpAny _ _ (call (Value.builtin "zip.__getattribute__") _ _) _ _ _);refine call_meets PySem.F.slot_zip_getattribute (hT _) mX (PySem.F.args_zip_getattribute_2 _ _) (vg a vs _) ⟨hx,hA,λh' tk' e he=>?_⟩)|wp_step)
 obtain⟨t1,u1,e1⟩:=he.there;show wpAny _ _ (getattributeRaised _ _ _ _ _ _ _) _ _ _;unfold getattributeRaised
 repeat(any_goals first|assumption|wp_step)
 exact q _ _ he.keeps
end
structure Zs (h:Heap) (tp1 tp2:Bool) (z TI TO i1 i2 l1 l2:Addr) (i:Nat) (xs ys:Array Value):Prop where
 zo:(∃ f1,bM h z TI TO .none f1)\/∃ (T:Int) (fb:Bool) (o:Obj),bM h z TI TO (rawInt T) (.bool fb)/\h.get? T.toNat=some o/\T.toNat≠z/\T.toNat≠TO/\T.toNat≠i1/\T.toNat≠i2
 hI:IsPair h TI (.ref i1) (.ref i2)
 hO:∃ a b,IsPair h TO a b
 g1:bh tp1 h i1 l1 i
 g2:bh tp2 h i2 l2 i
 t1:bI tp1 h l1 xs
 t2:bI tp2 h l2 ys
variable {d:Addr}
section
variable {prog:Program}{w:World}{A:Around}{E:LD}{s:Shared}{tp1 tp2:Bool}{z TI TO i1 i2 l1 l2:Addr}{i:Nat}{xs ys:Array Value}{x y:Value}
def Zs.next (D:ZipApart z TI TO i1 i2 l1 l2)(Z:Zs s.heap tp1 tp2 z TI TO i1 i2 l1 l2 i xs ys)(hx:xs[i]? =some x)(hy:ys[i]? =some y)
  (q:∀ h',Zs h' tp1 tp2 z TI TO i1 i2 l1 l2 (i+1) xs ys->IsPair h' s.heap.objs.size x y->h'.objs.size=s.heap.objs.size+1->(∀ c o,c≠z->c≠TO->c≠i1->c≠i2->s.heap.get? c=some o->h'.get? c=some o)->Q (some (.ref s.heap.objs.size)) { s with heap:=h' }):
  wpAny (model prog w) A (pyNext (.ref z)) Q E s:=by
 obtain⟨zo,hI,⟨a,b,hO⟩,g1,g2,t1,t2⟩:=Z;have n0:∀ {c o},s.heap.get? c=some o->s.heap.objs.size≠c:=λe=>Nat.ne_of_gt (tz e)
 rcases zo with⟨f1,hz⟩|⟨T,fb,o,hz,hT,n1,n2,n3,n4⟩
 .refine ux D hz hI hO g1 g2 t1 t2 hx hy λh' z1 o1 j1 j2 p1 sz k=>?_
  refine q h' ⟨.inr ⟨s.heap.objs.size,false,_,z1,p1,n0 hz,n0 hO,Nat.ne_of_gt g1.lt,Nat.ne_of_gt g2.lt⟩,k _ _ D.TIz D.TITO D.TIi1 D.TIi2 hI,⟨_,_,o1⟩,j1,j2,t1.to λo e=>k _ o D.l1z D.l1TO D.l1i1 D.l1i2 e,t2.to λo e=>k _ o D.l2z D.l2TO D.l2i1 D.l2i2 e⟩ p1 sz k
 .refine Ad D hz hT hI g1 g2 t1 t2 hx hy λh' z1 j1 j2 p1 sz k=>?_
  exact q h' ⟨.inr ⟨T,true,o,z1,k _ _ n1 n3 n4 hT,n1,n2,n3,n4⟩,k _ _ D.TIz D.TIi1 D.TIi2 hI,⟨a,b,k _ _ D.TOz D.TOi1 D.TOi2 hO⟩,j1,j2,t1.to λo e=>k _ o D.l1z D.l1i1 D.l1i2 e,t2.to λo e=>k _ o D.l2z D.l2i1 D.l2i2 e⟩ p1 sz λc o m1 _ m3 m4 e=>k c o m1 m3 m4 e
def Zs.stop (hh:A.handled=none)(D:ZipApart z TI TO i1 i2 l1 l2)(Z:Zs s.heap tp1 tp2 z TI TO i1 i2 l1 l2 i xs ys)(hx:xs[i]? =none\/ys[i]? =none)
  (q:∀ h',(∀ c o,c≠z->c≠TO->c≠i1->c≠i2->s.heap.get? c=some o->h'.get? c=some o)->Q none { s with heap:=h' }):wpAny (model prog w) A (pyNext (.ref z)) Q E s:=by
 obtain⟨zo,hI,⟨a,b,hO⟩,g1,g2,t1,t2⟩:=Z;rcases zo with⟨f1,hz⟩|⟨T,fb,o,hz,hT,_⟩
 .exact yR hh D hz hI hO g1 g2 t1 t2 hx q
 .exact xo hh D hz hT hI g1 g2 t1 t2 hx λh' k=>q h' λc o m1 _ m3 m4 e=>k c o m1 m3 m4 e
def Zs.keep {h':Heap}(Z:Zs h tp1 tp2 z TI TO i1 i2 l1 l2 i xs ys)(k:∀ c o,h.get? c=some o->c≠d->h'.get? c=some o) (n:d≠z/\d≠TI/\d≠TO/\d≠i1/\d≠i2/\d≠l1/\d≠l2) (hd:∃ o,h'.get? d=some o):Zs h' tp1 tp2 z TI TO i1 i2 l1 l2 i xs ys:=by
 obtain⟨zo,hI,⟨a,b,hO⟩,g1,g2,t1,t2⟩:=Z;obtain⟨m1,m2,m3,m4,m5,m6,m7⟩:=n;refine⟨?_,k _ _ hI m2.symm,⟨a,b,k _ _ hO m3.symm⟩,g1.to λo e=>k _ o e m4.symm,g2.to λo e=>k _ o e m5.symm,t1.to λo e=>k _ o e m6.symm,t2.to λo e=>k _ o e m7.symm⟩;rcases zo with⟨f1,hz⟩|⟨T,fb,o,hz,hT,r⟩
 .exact .inl ⟨f1,k _ _ hz m1.symm⟩
 .by_cases e:T.toNat=d
  .obtain⟨o',ho⟩:=hd;exact .inr ⟨T,fb,o',k _ _ hz m1.symm,by rw[e];exact ho,r⟩
  .exact .inr ⟨T,fb,o,k _ _ hz m1.symm,k _ _ hT e,r⟩
end
def fj:plainId "dict.update.loop"=true:=by decide+kernel
def mG:entryFor table "dict.update.loop"=some Builtin.«dict.update.loop»:=entryFor_of_tree (by kernel_rfl)
section
variable {prog:Program}{w:World}{A:Around}{tp1 tp2:Bool}{z TI TO i1 i2 l1 l2 d:Addr}{xs ys:Array Value}{Ky:Type} [DecidableEq Ky] {knd:KeyKind prog w Ky}
def zE (hh:A.handled=none)(D:ZipApart z TI TO i1 i2 l1 l2)(nd:d≠z/\d≠TI/\d≠TO/\d≠i1/\d≠i2/\d≠l1/\d≠l2)(ks:List Ky)(hk:∀ (j:Nat) x,xs[j]? =some x->∃ k,ks[j]? =some k/\knd.is k x=true) (hz:xs.size=ys.size):
  ∀ (m i:Nat),xs.size-i=m->i<=xs.size->∀ (s:Shared) (kvs:List (Ky×Value)) (R:Result->Shared->Prop),Zs s.heap tp1 tp2 z TI TO i1 i2 l1 l2 i xs ys->s.heap.DictOf knd d kvs->kvs.length+m<=bn->
  (∀ h' t',h'.DictOf knd d (merged kvs ((ks.zip ys.toList).drop i))->(∀ c o,c≠z->c≠TO->c≠i1->c≠i2->c≠d->s.heap.get? c=some o->h'.get? c=some o)->R (.ok (.ret .none)) { s with heap:=h',toks:=t' })->
  wpAny (model prog w) A.in1 (Builtin.«dict.update.loop» ⟨[.ref d,.ref z,rawInt i,.none],[]⟩) (λfin s'=>match fin with| .done f=>R (.ok f) s'| .again c'=>c'.quiet=true/\codeAny (model prog w) A c' R s') (λe s'=>R (.error e) s') s:=by
 intro m
 induction m with
 |zero=>
  intro i hm hi s kvs R Z dd hl q;show wpAny _ _ (pyNext (.ref z) >>= _) _ _ _;refine ad (Z.stop (show A.in1.handled=none from hh) D (.inl (by simp;omega)) λh' k=>?_);show wpAny _ _ (Builtin.Dict.addKeywords d [] >>= _) _ _ _;refine ad (am (am ?_));have e:(ks.zip ys.toList).drop i=[]:=by
   rw[List.drop_eq_nil_iff,length_zip];simp
   omega
  rw[e]at q;refine q h' s.toks ?_ λc o n1 n2 n3 n4 _ e=>k c o n1 n2 n3 n4 e
  obtain⟨o,es,ep,ho,r⟩:=dd;exact⟨o,es,ep,k _ _ nd.1 nd.2.2.1 nd.2.2.2.1 nd.2.2.2.2.1 ho,r⟩
 |succ m ih=>
  intro i hm hi s kvs R Z dd hl q;have h1:i<xs.size:=by omega
  have h2:i<ys.size:=by omega
  have e1:xs[i]? =some xs[i]:=Array.getElem?_eq_getElem h1;have e2:ys[i]? =some ys[i]:=Array.getElem?_eq_getElem h2;obtain⟨k,hk1,hk2⟩:=hk i _ e1;show wpAny _ _ (pyNext (.ref z) >>= _) _ _ _;refine ad (Z.next D e1 e2 λh' Z' p sz fr=>?_);show wpAny _ _ (holding [_] _ >>= _) _ _ _;refine ad (bd ?_);refine ad ?_;have hT:({ s with heap:=h' }:Shared).TypeIs (.ref s.heap.objs.size) "tuple":=⟨_,p,rfl⟩;refine wpAny_tryCatch ?_;unfold Builtin.Dict.pairItems;refine ad (wpAny_typeOf hT ?_);rw[if_pos (by decide)];refine ad (wpAny_seqItems p rfl (am ?_));show wpAny _ _ (holding [_,_] (dictSet d xs[i] ys[i])) _ _ _;refine bd ?_;have dd':h'.DictOf knd d kvs:=by
   obtain⟨o,es,ep,ho,r⟩:=dd;exact⟨o,es,ep,fr _ _ nd.1 nd.2.2.1 nd.2.2.2.1 nd.2.2.2.2.1 ho,r⟩
  refine wpAny_dictSet_pairs (s:={ s with heap:=h' }) (hsz:=by omega) hk2 dd' λh2' d2 b2=>?_
  show wpAny _ _ (pure (Fin.again (.builtin "dict.update.loop" ⟨[.ref d,.ref z,rawInt ((i:Int)+1),.none],[]⟩))) _ _ _;refine am ⟨plainId_quiet fj _,codeAny_builtin mG ?_⟩;rw[Around.under_plainId fj _,show((i:Int)+1)=((i+1:Nat):Int) by push_cast;rfl];have hd:∃ o,h2'.get? d=some o:=let⟨o,_,_,ho,_⟩:=d2;⟨o,ho⟩;refine ih (i+1) nofun nofun { s with heap:=h2',toks:=s.toks+1 } (stored kvs k ys[i]) R (Z'.keep (λc o e n=>b2.extBut _ _ n e) nd hd) d2 ?_ λh3 t3 d3 f3=>?_
  .have:(stored kvs k ys[i]).length<=kvs.length+1:=by
    unfold stored
    split
    .rw[ce];omega
    .rw[ci];simp
   omega
  .have ed:(ks.zip ys.toList).drop i=(k,ys[i])::(ks.zip ys.toList).drop (i+1):=by
    have:(ks.zip ys.toList)[i]? =some (k,ys[i]):=by
     rw[List.getElem?_zip_eq_some];exact⟨hk1,by simpa using h2⟩
    obtain⟨hlt,he⟩:=sw.mp this;rw[List.drop_eq_getElem_cons hlt,he]
   refine q h3 t3 ?_ λc o n1 n2 n3 n4 n5 e=>f3 c o n1 n2 n3 n4 n5 (b2.extBut _ _ n5 (fr c o n1 n2 n3 n4 e))
   rw[ed];exact d3
def nq {E:LD}{Q:LD}(hh:A.handled=none)(D:ZipApart z TI TO i1 i2 l1 l2)(ks:List Ky)(hk:∀ (j:Nat) x,xs[j]? =some x->∃ k,ks[j]? =some k/\knd.is k x=true) (hz:xs.size=ys.size) (hn:ks.Nodup) (hkl:ks.length=xs.size) (hsz:xs.size<=bn)
  (Z:Zs s.heap tp1 tp2 z TI TO i1 i2 l1 l2 0 xs ys) (hzo:∃ f1,bM s.heap z TI TO .none f1)
  (q:∀ h' t',h'.DictOf knd s.heap.objs.size (ks.zip ys.toList)->(∀ c o,c≠z->c≠TO->c≠i1->c≠i2->s.heap.get? c=some o->h'.get? c=some o)->Q (.ref s.heap.objs.size) { s with heap:=h',toks:=t' }):
  wpAny (model prog w) A (call (.type "dict") [.ref z]) Q E s:=by
 refine callType_codes (Q₁:=λobj s1=>obj=.ref s.heap.objs.size/\s1={ s with heap:=s.heap.push { cls:=.type "dict",data:=.dict #[] } }) PySem.F.kt_called_dict (PySem.F.kt_typeCall_dict_1 _) PySem.F.entry_dict_init (kt_code_dict_new _ ⟨rfl,rfl⟩) ?_;rintro obj s1 ⟨rfl,rfl⟩;have dn:(s.heap.push { cls:=.type "dict",data:=.dict #[] }).DictOf knd s.heap.objs.size []:=Heap.DictOf.new s.heap;refine⟨dn.typeIs,PySem.F.args_dict_init_2 _ _,?_⟩;unfold Builtin.«dict.__init__»;refine ad ?_;unfold Builtin.Dict.selfAndRest;refine ad (wpAny_notOrdered_dict dn.typeIs ?_);show wpAny _ _ (pure (s.heap.objs.size,[Value.ref z])) _ _ _;refine am ?_;show wpAny _ _ (Builtin.Dict.updateFrom "dict.__init__" s.heap.objs.size (.ref z) [] .none) _ _ _;unfold Builtin.Dict.updateFrom;obtain⟨f1,hz0⟩:=hzo;have hz1:(s.heap.push { cls:=.type "dict",data:=.dict #[] }).get? z=some _:=sK _ hz0;have hT:({ s with heap:=s.heap.push { cls:=.type "dict",data:=.dict #[] } }:Shared).TypeIs (.ref z) "zip":=⟨_,hz1,rfl⟩;refine ad (wpAny_typeOf hT ?_);rw[if_pos (by decide)];refine ad (w9 hh hz1 λh1 t1 k1=>?_);rw[if_pos (show(none:Option Value).isNone=true from rfl)];refine ad (wpAny_rule ?_);refine ad (kB (s:={ s with heap:=h1,toks:=t1 }) (k1 _ _ hz1) ?_);have n0:∀ {c o},s.heap.get? c=some o->s.heap.objs.size≠c:=λe=>Nat.ne_of_gt (tz e)
 have nd:s.heap.objs.size≠z/\s.heap.objs.size≠TI/\s.heap.objs.size≠TO/\s.heap.objs.size≠i1/\s.heap.objs.size≠i2/\s.heap.objs.size≠l1/\s.heap.objs.size≠l2:=by
  obtain⟨a,b,hO⟩:=Z.hO;exact⟨n0 hz0,n0 Z.hI,n0 hO,Nat.ne_of_gt Z.g1.lt,Nat.ne_of_gt Z.g2.lt,Nat.ne_of_gt Z.t1.lt,Nat.ne_of_gt Z.t2.lt⟩
 have kk:∀ c o,s.heap.get? c=some o->h1.get? c=some o:=λc o e=>k1 _ _ (sK _ e)
 have d1:h1.DictOf knd s.heap.objs.size []:=by
  obtain⟨o,es,ep,ho,r⟩:=dn;exact⟨o,es,ep,k1 _ _ ho,r⟩
 refine am ⟨plainId_quiet fj _,codeAny_builtin mG ?_⟩;rw[Around.under_plainId fj _];refine zE (A:=A.in1) (d:=s.heap.objs.size) hh D nd ks hk hz _ 0 rfl (Nat.zero_le _) { s with heap:=h1,toks:=t1 } [] _ (Z.keep (λc o e _=>kk c o e) nd (let⟨o,_,_,ho,_⟩:=d1;⟨o,ho⟩)) d1 (by simpa using hsz) λh' t' d' f'=>?_
 rw[drop_zero,merged_nil_of_nodup _ (by rw[List.map_fst_zip (by simp;omega)];exact hn)]at d';exact⟨rfl,q h' t' d' λc o n1 n2 n3 n4 e=>f' c o n1 n2 n3 n4 (n0 e).symm (kk c o e)⟩
end
def xK:bootBuiltins "dict"=some (.type "dict"):=by decide+kernel
def CI {P:Program}{w:World}:∀ {ks:List Key}{us:List Value},Vals (ks.map kV) us->∀ (j:Nat) u,us[j]? =some u->∃ k,ks[j]? =some k/\(av P w).is k u=true
 | [],_,.nil,j,u,h=>by simp at h
 |k::ks,_,.cons r rs,0,u,h=>by
  simp at h;subst h;exact⟨k,rfl,mf r⟩
 |k::ks,_,.cons r rs,j+1,u,h=>by
  simp at h;obtain⟨k',e1,e2⟩:=CI (P:=P) (w:=w) rs j u h;exact⟨k',by simpa using e1,e2⟩
def Ct:∀ {ks:List Key}{ys:List V}{us:List Value},Vals ys us->KV (ks.zip ys) (ks.zip us)
 | [],_,_,_=>by simp[List.zip];exact .nil
 |_::_,_,_,.nil=>.nil
 |k::ks,_,_,.cons r rs=>.cons ⟨rfl,r⟩ (Ct rs)
abbrev Kz (K:W.Frag)(v u:V)(H:Hp)(Q:VK):Prop:=∃ tp1 l1 tp2 l2,∃ (ks:List Key) (ys:List V),v=.ref l1/\u=.ref l2/\Sq K tp1 H l1 (ks.map kV)/\Sq K tp2 H l2 ys/\ks.Nodup/\ks.length=ys.length/\ks.length<=1000/\∀ p,H p=none->Q (.ref p) (upd H p (.dK (ks.zip ys)))
abbrev Le (K:W.Frag)(ta:TA):TE:=λU H Q=>ta U H λvs H1=>∃ v u,vs=[v,u]/\Kz K v u H1 Q
def Bb {a b:Expr}{p2 pos2:Pos}(hc:X.calm=true)(hg:Gl X "dict") (hm:X.mg "dict"=none) (hg2:Gl X "zip") (hm2:X.mg "zip"=none) (ha:PA X [a,b] ta)
  (hs:bm [a,b] X.env=(false,eval a X.env)::bm [b] X.env:=by rfl) (hpl:(backTo pos2 (bm [b] X.env)).any (·.1)=false:=by rfl):
  PE X (.Call (.Name "dict" p) [.Call (.Name "zip" p2) [a,b] [] pos2] [] pos) (Le X.K ta):=by
 intro Y s U H Q I h;have h1:bm [.Call (.Name "zip" p2) [a,b] [] pos2] X.env=[(false,eval (.Call (.Name "zip" p2) [a,b] [] pos2) X.env)]:=rfl;refine Call_ (cB I hg hm xK (PyProof.Rows.callWith_type1 ?_ h1 rfl));rw[h1];show wpAny _ _ (spliced ((false,eval (.Call (.Name "zip" p2) [a,b] [] pos2) X.env)::backTo pos [])) _ _ _;refine Calls.spliced_cons ?_;refine Call_ (cB I hg2 hm2 yC (PyProof.Rows.callWith_type1 (aA (ha pos2 Y s U H _ I h) λus s1 ⟨vs,H1,I1,r1,q1⟩=>?_) hs hpl));obtain⟨v,u,e,tp1,l1,tp2,l2,ks,ys,e1,e2,q1,q2,kn,kl,kz,q⟩:=q1;subst e e1 e2;cases r1 with
 |cons r rr=>
  cases rr with
  |cons r' rr'=>
   cases rr';cases r;cases r';obtain⟨is1,v1,t1⟩:=I1.sq q1;obtain⟨is2,v2,t2⟩:=I1.sq q2;refine qi t1 t2 λh' hz hI hO g1 g2 hsz hk=>?_
   refine Calls.spliced_nil ?_;have n1:is1.length=ks.length:=by rw[<-v1.length,ce]
   have n2:is2.length=ks.length:=by rw[<-v2.length,kl]
   refine nq (s:={ s1 with heap:=h' }) (knd:=av X.prog X.w) (I1.ok.hd hc) (wW t1.lt t2.lt) ks (λj x hx=>CI v1 j x (by simpa using hx)) (by simp;omega) kn (by simp;omega) (by simp;rw[n1];exact fits kz)
    ⟨.inl ⟨_,hz⟩,hI,⟨_,_,hO⟩,g1,g2,t1.to λo e=>hk _ o e,t2.to λo e=>hk _ o e⟩ ⟨_,hz⟩ λh2 t2' d2 f2=>?_
   have lt0:∀ {c o},s1.heap.get? c=some o->c<s1.heap.objs.size:=λe=>tz e
   have hfree:H1 h'.objs.size=none:=I1.hok.fresh (by rw[hsz];exact Nat.le_add_right _ _);refine⟨.ref h'.objs.size,_,I1.laid (a:=h'.objs.size) (o:=.dK (ks.zip ys)) (t':=t2') (λc o e=>?_) (by rw[hsz];exact Nat.le_add_right _ _) ⟨?_,?_,_,Ct v2,by simpa using d2⟩,rfl,q _ hfree⟩
   .have hl:=lt0 e;refine f2 c o (pc (nw hl (Nat.le_add_right _ _))) (pc (nw hl (Nat.le_add_right _ _))) (pc hl) (pc (nw hl (Nat.le_add_right _ _))) (hk c o e)
   .rw[length_zip];exact fits (Nat.le_trans (Nat.min_le_left _ _) kz)
   .exact beq_eq_false_iff_ne.mpr (Nat.ne_of_gt (nw I1.big (by rw[hsz];exact Nat.le_add_right _ _)))
section
variable {X:Cx}{Y:LF}{U:St}{H:Hp}{s:Shared}{a:Addr}{kvs:List (Key×V)}{A:Around}{E:LD}
def wq {Q:LD}(I:Inv X Y U H s)(e:Rd H a (.dK kvs))(h:∀ p s',H p=none->Inv X Y U (upd H p (.dK kvs)) s'->Q (.ref p) s'):wpAny (model X.prog X.w) A (call (.type "dict") [.ref a]) Q E s:=by
 obtain⟨z,hd,vs,rel,dd⟩:=iT I.hok e;refine kt_call_dict hd dd (by rw[<-rel.length];exact z) λh' dd' hs=>?_
 refine h _ _ (I.hok.fresh (pi _)) (I.laid (a:=s.heap.objs.size) (o:=.dK kvs) (t':=s.toks) (λb q hq=>?_) (pi _) (rp z (beq_eq_false_iff_ne.mpr (Ne.symm (pc I.big))) rel dd'));exact(hs.2 b (pc (tz hq))).trans (sK _ hq)
end
section
variable {X:Cx}{Y:LF}{U:St}{H:Hp}{s:Shared}
end
def GZ (d:Addr)(hd:(d ==sysModules)=false)(dd:Option Addr)(ep:Nat)(sl:Array (Option Value)):Meets (Builtin.«dict.__eq__» ⟨[.ref d,.ref d],[]⟩) (λ_ R s=>s.heap.get? d=some ⟨.type "dict",dd,.dict #[] ep,sl⟩/\R (.ok (.ret (.bool true))) s):=by
 intro prog w A R s hs;obtain⟨h,g,dp,tt,os⟩:=s;obtain⟨ho,q⟩:=hs;have hT:(⟨h,g,dp,tt,os⟩:Shared).TypeIs (.ref d) "dict":=⟨_,ho,rfl⟩;unfold Builtin.«dict.__eq__»
 k_delta "equality"
 unfold Builtin.Dict.dictSlotArgs;refine ad (ad (wpAny_notOrdered_dict hT ?_));show wpAny _ _ (pure (Value.ref d,[Value.ref d]) >>= _) _ _ _;refine ad (am (am ?_));have hi:=PySem.F.kt_sub_dict;show wpAny _ _ (isInstance (.ref d) (.type "dict") >>= _) _ _ _;unfold Builtin.Dict.samePairs;simp only[Std.Legacy.Range.forIn_eq_forIn_range']
 repeat(any_goals first|assumption|wp_step)
variable {A:Around}{dd:Option Addr}{sl:Array (Option Value)}
def HM (hd:(d ==sysModules)=false){ep:Nat}(ho:s.heap.get? d=some ⟨.type "dict",dd,.dict #[] ep,sl⟩) (hu:A.units<cLine):SeqAt.RcAt A s (.ref d) (.ref d) true:=λprog w E Q h=>
 richCompare_meets_room (op:=.Eq) ⟨_,ho,rfl⟩ ⟨_,ho,rfl⟩ PySem.F.slot_dict_eq PySem.F.entry_dict_eq (PySem.F.args_dict_eq_2 _ _) (GZ d hd dd ep sl) ⟨ho,show Value.bool true≠Value.notImplemented/\Q (.bool true) s from⟨(λx=>nomatch x),h⟩⟩ hu
abbrev rZ (K:W.Frag)(H:Hp)(a:Addr):Prop:=(∃ xs,bj K H a xs)\/(∃ xs,bg K H a xs)\/H a=some (.dK [])
def Cc {a:Addr}(I:Inv X Y U H s)(h:rZ X.K H a)(hu:A.units+2<cLine):SeqAt.RcAt A s (.ref a) (.ref a) true:=by
 rcases h with⟨xs,h⟩|⟨xs,h⟩|h
 .obtain⟨ia,ra,pa,_⟩:=I.list h;have rc:=SeqAt.RcAt.lists (A:=A) (e:=λ_=>true) pa.isList pa.isList rfl nofun λj h1 h2=>SeqAt.EqAt.same _
  have e:(List.range ia.toArray.size).all (λ_=>true)=true:=by simp
  rwa [e]at rc
 .obtain⟨ia,ra,pa,_⟩:=I.tuple h;have rc:=SeqAt.RcAt.tuples (A:=A) (e:=λ_=>true) (show s.heap.IsTuple a ia.toArray from pa) (show s.heap.IsTuple a ia.toArray from pa) nofun λj h1 h2=>SeqAt.EqAt.same _
  have e:((List.range (min ia.toArray.size ia.toArray.size)).all (λ_=>true)&&ia.toArray.size ==ia.toArray.size)=true:=by simp
  rwa [e]at rc
 .obtain⟨z,hd,vs,rel,dd⟩:=iT I.hok (.inl h);cases rel;obtain⟨⟨c,d,da,sl⟩,es,ep,ho,hx,he,_,hp,_⟩:=dd;have e0:es=#[]:=by
   cases hp':es.toList with
   |nil=>exact Array.toList_eq_nil_iff.mp hp'
   |cons a b=>rw[hp']at hp;cases hp
  subst e0;obtain rfl:da=.dict #[] ep:=he;obtain⟨rfl,_⟩:=hx;exact HM hd ho nofun
section
variable {prog:Program}{w:World}{A:Around}{E:LD}{s:Shared}{T:String}{r d:Addr}{n:Nat}{P:Nat->Value->Prop}{OK:Heap->Prop}
def pw {Q:List Value->Shared->Prop}(K:KdlSrc prog w T r d n P OK)(hh:A.handled=none)(hok:OK s.heap)(hn:n<=bn)
  (hQ:∀ h' tk (acc:Array Value),(∀ b o,s.heap.get? b=some o->h'.get? b=some o)->ItemsOf P acc n->Q acc.toList { s with heap:=h',toks:=tk }):wpAny (model prog w) A (collect (.ref r)) Q E s:=by
 have hlt:=K.there _ hok;unfold collect;refine ad (wpAny_runValue (codeAny_builtin PySem.F.entry_proto_collect ?_));rw[Around.under_plainId PySem.F.plain_proto_collect _];show wpAny _ A.in1 (newList [] >>= λz=>again (.builtin "list.__iadd__" ⟨[z,.ref r],[]⟩)) _ _ s;refine ad (wpAny_newObj_type (am ⟨plainId_quiet PySem.F.plain_list_iadd _,codeAny_builtin PySem.F.entry_list_iadd ?_⟩));rw[Around.under_plainId PySem.F.plain_list_iadd _];show wpAny _ A.in1 (Builtin.List.listExtendWith (.ref s.heap.objs.size) (.ref r) (.ref s.heap.objs.size)) _ _ _;have hS:(s.heap.push { cls:=.type "list",data:=.seq ([]:List Value).toArray }).get? s.heap.objs.size=some { cls:=.type "list",data:=.seq #[] 0 }:=ul s.heap rfl;have fin:∀ (x:Result) (s':Shared),(x=.ok (.ret (.ref s.heap.objs.size))/\∃ h' tk acc c',s'={ s with heap:=h',toks:=tk }/\(∀ b o,s.heap.get? b=some o->h'.get? b=some o)/\h'.get? s.heap.objs.size=some { cls:=.type "list",dict:=none,data:=.seq acc c',slots:=#[] }/\ItemsOf P acc n)->
   wpAny (model prog w) A (match Value.ref s.heap.objs.size with
    |Value.ref a=>do
     match (<-load a).data with
      |Data.seq xs _=>pure xs.toList
      |_=>unsupported "internal:collect"
    |_=>unsupported "internal:collect") Q E s':=λx s' ⟨_,h',tk,acc,c',e,hk,ho,hi⟩=>by
  subst e;show wpAny _ A (load s.heap.objs.size >>= _) _ _ _;exact ad (wpAny_load ho (am (hQ h' tk acc hk hi)))
 refine wpAny_mono (kdl_extend (A:=A) (s:={ s with heap:=s.heap.push { cls:=.type "list",data:=.seq ([]:List Value).toArray } })
  (R:=λx s'=>x=.ok (.ret (.ref s.heap.objs.size))/\∃ h' tk acc c',s'={ s with heap:=h',toks:=tk }/\(∀ b o,s.heap.get? b=some o->h'.get? b=some o)/\h'.get? s.heap.objs.size=some { cls:=.type "list",dict:=none,data:=.seq acc c',slots:=#[] }/\ItemsOf P acc n)
  K hh (K.keep _ _ hok λb _ o e=>sK _ e) s.heap.objs.size (Nat.ne_of_gt hlt.1) (Nat.ne_of_gt hlt.2) (.ref s.heap.objs.size) 0 hS (λh' tk acc c' hk ho hi=>⟨rfl,h',tk,acc,c',rfl,λb o e=>hk b o (pc (tz e)) (sK _ e),ho,hi⟩) hn) (λfi s' h=>?_) (λe s' h=>?_)
 .cases fi with
  |done f=>
   have hf:=h.1;cases hf;exact fin _ _ h
  |again c'=>exact⟨h.1,codeAny_mono h.2 λx s'' hx=>by
    have e:=hx.1;subst e;exact fin _ _ hx⟩
 .exact absurd h.1 (by simp)
def lM {Q₁:LD}(K:KdlSrc prog w T r d n P OK)(hT0:(T =="tuple")=false) (hh:A.handled=none) (hok:OK s.heap) (hn:n<=bn)
  (h:∀ (h':Heap) (tk:Nat) (acc:Array Value),(∀ b o,s.heap.get? b=some o->h'.get? b=some o)->ItemsOf P acc n->Q₁ (.ref h'.objs.size) { s with heap:=h'.push { cls:=.type "tuple",data:=.seq acc },toks:=tk }):
  codeAny (model prog w) A (.call (.builtin "tuple.__new__") ⟨[.type "tuple",.ref r],[]⟩) (wants Q₁ E) s:=by
 refine codeAny_of_tree ?_;show wpAny _ A.in1 (do checkBuiltinCall "tuple.__new__" ⟨[.type "tuple",.ref r],[]⟩;again (.builtin "tuple.__new__" ⟨[.type "tuple",.ref r],[]⟩)) _ _ s;refine ad (wpAny_of_eq (PySem.F.newCall_tuple_1 _) (am ⟨plainId_quiet PySem.F.plain_tuple_new _,codeAny_builtin PySem.F.entry_tuple_new ?_⟩));rw[Around.under_plainId PySem.F.plain_tuple_new _];have h1:=sub_tuple_self;have h2:=init_tuple_lookup;have h3:=madeHere_tuple;have hTI:=K.type s hok;have h4:=K.notTuple
 wp_walk using wpAny_typeOf hTI,pw (A:=A.in1) K hh hok hn
 intro h' tk acc hk hi;show wpAny _ _ (Builtin.Tuple.tupleExact acc.toList.toArray >>= λz=>ret z) _ _ _;unfold Builtin.Tuple.tupleExact;have e:acc.toList.toArray=acc:=Array.toArray_toList;rw[e];refine ad (wpAny_newObj_type (am ?_) (by show acc.size<=bn;rw[hi.1];exact hn));exact h h' tk acc hk hi
def j0 {Q:LD}(K:KdlSrc prog w T r d n P OK)(hT0:(T =="tuple")=false) (hh:A.handled=none) (hok:OK s.heap) (hn:n<=bn)
  (h:∀ (h':Heap) (tk:Nat) (acc:Array Value),(∀ b o,s.heap.get? b=some o->h'.get? b=some o)->ItemsOf P acc n->Q (.ref h'.objs.size) { s with heap:=h'.push { cls:=.type "tuple",data:=.seq acc },toks:=tk }):
  wpAny (model prog w) A (call (.type "tuple") [.ref r]) Q E s:=by
 refine callType_codes (Q₁:=λz s₁=>s₁.TypeIs z "tuple"/\Q z s₁) PySem.F.called_tuple (PySem.F.typeCall_tuple_1 _) PySem.F.entry_object_init (lM K hT0 hh hok hn λh' tk acc hk hi=>⟨⟨_,ul _ rfl,rfl⟩,h h' tk acc hk hi⟩) λz s₁ g=>?_
 exact⟨g.1,PySem.F.args_object_init_2 z _,object_init_meets PySem.F.called_tuple.init.lookup PySem.F.called_tuple.made (by decide) prog w A.in1 _ s₁ ⟨g.1,rfl,g.2⟩⟩
end
def yD:bootBuiltins "list"=some (.type "list"):=by decide+kernel
def vz:bootBuiltins "tuple"=some (.type "tuple"):=by decide+kernel
abbrev Er (tp:Bool)(xs:List V):HO:=match tp with
 |true=>.tup xs
 |false=>.lst xs
abbrev ie (tp:Bool):String:=match tp with
 |true=>"tuple"
 |false=>"list"
abbrev A5 (tp:Bool):Str:=match tp with
 |true=>"tuple"
 |false=>"list"
abbrev C5 (tp:Bool)(x:V)(H:Hp)(Q:VK):Prop:=∃ d kvs,x=.ref d/\H d=some (.dK kvs)/\∀ p,H p=none->Q (.ref p) (upd H p (Er tp (kvs.map (·.2))))
def nF:∀ {kvs:List (Key×V)}{vs:List (Key×Value)},KV kvs vs->Vals (kvs.map (·.2)) (vs.map (·.2))
 |_,_,.nil=>.nil
 |_,_,.cons r rs=>.cons r.2 (nF rs)
def uR {Q:VK}{kvs:List (Key×V)}(tp:Bool)(hc:X.calm=true)(I:Inv X Y U H s)(e:H d=some (.dK kvs))(q:∀ p,H p=none->Q (.ref p) (upd H p (Er tp (kvs.map (·.2))))):
  wpAny (model X.prog X.w) X.A (call (.builtin "dict.values") [.ref d]) (λv s1=>wpAny (model X.prog X.w) X.A (call (.type (ie tp)) [v]) (EP X Y U Q) X.xe s1) X.xe s:=by
 obtain⟨hz,hd,vs,rel,dd⟩:=iT I.hok (.inl e);refine call_meetsIn PySem.F.slot_dict_values dd.typeIs PySem.F.entry_dict_values (PySem.F.args_dict_values_1 _) (meets_dict_values (av X.prog X.w) d hd) ⟨⟨vs,dd⟩,?_⟩;obtain⟨o,es,ep,ho,hx,he,hk,hp,hn⟩:=dd;have hA:s.heap.DictAt (av X.prog X.w) d vs ep:=⟨o,es,ho,hx,he,hk,hp,hn⟩;have hok:(s.heap.push { cls:=.type "dict_values",data:=.fields #[.ref d] }).IsValuesView s.heap.objs.size d/\(s.heap.push { cls:=.type "dict_values",data:=.fields #[.ref d] }).DictAt (av X.prog X.w) d vs ep:=⟨⟨_,ul _ rfl,rfl,rfl⟩,hA.push _⟩;have hl:vs.length<=bn:=by rw[<-rel.length];exact hz
 have hv:∀ (acc:Array Value),ItemsOf (λi v=>∃ k,vs[i]? =some (k,v)) acc vs.length->acc.toList=vs.map (·.2):=λacc hi=>kdl_vals_eq acc.toList (by rw[Array.length_toList];exact hi.1) λj v hj=>hi.2 j v (by rw[<-Array.getElem?_toList];exact hj)
 have I0:Inv X Y U H { s with heap:=s.heap.push { cls:=.type "dict_values",data:=.fields #[.ref d] } }:=I.kept (t':=s.toks) λb u hb=>sK _ hb
 have hlen:(kvs.map (·.2)).length<=bn:=by rw[ce];exact hz
 cases tp with
 |false=>
  refine kdl_call (s:={ s with heap:=s.heap.push { cls:=.type "dict_values",data:=.fields #[.ref d] } }) (kdl_values (prog:=X.prog) (w:=X.w) (knd:=av X.prog X.w) (r:=s.heap.objs.size) (d:=d) (kvs:=vs) (ep:=ep)) (I.ok.hd hc) hok hl λh' tk acc c' hk' hD hi=>?_
  have ea:=hv acc hi;refine⟨.ref _,_,I0.laid (t':=tk) hk' (pi _) (show aL X.prog X.w _ h' _ (.lst (kvs.map (·.2))) from⟨hlen,acc.toList,c',by rw[ea];exact nF rel,by rw[Array.toArray_toList];exact hD⟩),rfl,q _ (I0.hok.fresh (pi _))⟩
 |true=>
  refine j0 (s:={ s with heap:=s.heap.push { cls:=.type "dict_values",data:=.fields #[.ref d] } }) (kdl_values (prog:=X.prog) (w:=X.w) (knd:=av X.prog X.w) (r:=s.heap.objs.size) (d:=d) (kvs:=vs) (ep:=ep)) (by decide) (I.ok.hd hc) hok hl λh' tk acc hk' hi=>?_
  have ea:=hv acc hi;have I1:Inv X Y U H { s with heap:=h',toks:=tk }:=I0.kept (t':=tk) hk';have I2:Inv X Y U (upd H h'.objs.size (.tup (kvs.map (·.2)))) { s with heap:=h'.push { cls:=.type "tuple",data:=.seq acc },toks:=tk }:=
   I1.laid (t':=tk) (λb u hb=>sK _ hb) (pi _) (show aL X.prog X.w _ _ _ (.tup (kvs.map (·.2))) from⟨hlen,acc.toList,by rw[ea];exact nF rel,by rw[Array.toArray_toList];exact IsTup.new _ _⟩)
  exact⟨.ref h'.objs.size,_,I2,rfl,q _ (I1.hok.fresh (pi _))⟩
abbrev Gb (tp:Bool)(ta:TE):TE:=λU H Q=>ta U H λx H1=>C5 tp x H1 Q
def AB {a:Expr}{ta:TE}{apos cpos:Pos}(tp:Bool)(hc:X.calm=true)(hg:Gl X (A5 tp))(hm:X.mg (A5 tp)=none)(ha:PE X a ta)(hb:attributeBase a "values" X.env (eval a X.env)=eval a X.env) (hl:(apos.endLine ==cpos.line)=true):
  PE X (.Call (.Name (A5 tp) p) [.Call (.Attribute a "values" apos) [] [] cpos] [] pos) (Gb tp ta):=by
 intro Y s U H Q I h;have h1:bm [.Call (.Attribute a "values" apos) [] [] cpos] X.env=[(false,eval (.Call (.Attribute a "values" apos) [] [] cpos) X.env)]:=rfl;have go:wpAny (model X.prog X.w) X.A (eval (.Call (.Attribute a "values" apos) [] [] cpos) X.env) (λv s1=>wpAny (model X.prog X.w) X.A (call (.type (ie tp)) [v]) (EP X Y U Q) X.xe s1) X.xe s:=by
  refine wpAny_Call_method0_late hb hl (aA (ha Y s U H _ I h) λv s1 ⟨x,H1,I1,r1,q1⟩=>?_);obtain⟨d,kvs,ex,e,q⟩:=q1;subst ex;obtain⟨g1,g2⟩:=rE (T:="dict") I1 r1 (.inr (.inr (.inl ⟨rfl,.inl ⟨kvs,e⟩⟩)));cases r1;exact⟨"dict","dict.values",PySem.F.plainAttrs_dict,PySem.F.slot_dict_values,PySem.F.type_dict_values,g1,g2,Calls.callWith_builtin rfl (PySem.evalArgs_none (uR tp hc I1 e q))⟩
 cases tp with
 |true=>
  refine Call_ (cB I hg hm vz (PyProof.Rows.callWith_type1 ?_ h1 rfl));rw[h1];show wpAny _ _ (spliced ((false,eval (.Call (.Attribute a "values" apos) [] [] cpos) X.env)::backTo pos [])) _ _ _;exact Calls.spliced_cons (aA go λv s1 z=>Calls.spliced_nil z)
 |false=>
  refine Call_ (cB I hg hm yD (PyProof.Rows.callWith_type1 ?_ h1 rfl));rw[h1];show wpAny _ _ (spliced ((false,eval (.Call (.Attribute a "values" apos) [] [] cpos) X.env)::backTo pos [])) _ _ _;exact Calls.spliced_cons (aA go λv s1 z=>Calls.spliced_nil z)
abbrev yw (K:W.Frag)(C:Addr):Bool:=findIn K (.ref C) "__eq__" ==some (some (.builtin "object.__eq__"))&&subIn K (.ref C) (.type "str") ==some false&&subIn K (.ref C) (.type "object") ==some true
def qO {prog:Program}{w:World}{K:Frag}{C:Addr}{R:Result->Shared->Prop}(X:K.In s.heap)(hm:makesIn K C=true)(hi:findIn K (.ref C) "__init__"=some (some (.builtin "object.__init__")))
  (h:R (.ok (.ret (.ref (s.heap.objs.size+1)))) { s with heap:=(s.heap.push emptyDict).push (instObj C s.heap.objs.size) }):codeAny (model prog w) A (.call (.ref C) ⟨[],[]⟩) R s:=by
 obtain⟨hh,g,d,t,os⟩:=s;have Y:=makes_of (M:=model prog w) X hm;refine make_core Y (looks_findIn X hi) (λz=>Looks.of_pure (oi_bind z)) (.inr ⟨rfl,rfl⟩) ?_;have k:∀ b o,hh.get? b=some o->((hh.push emptyDict).push (instObj C hh.objs.size)).get? b=some o:=λb o e=>sK _ (sK _ e)
 have hx:((hh.push emptyDict).push (instObj C hh.objs.size)).get? (hh.objs.size+1)=some (instObj C hh.objs.size):=by heap_get
 have t1:Looks (model prog w) ((hh.push emptyDict).push (instObj C hh.objs.size)) (typeOf (.ref (hh.objs.size+1))) (.ref C):=Looks.andThen (Looks.ld hx) .now;have t2:Looks (model prog w) ((hh.push emptyDict).push (instObj C hh.objs.size)) (isInstance (.ref (hh.objs.size+1)) (.type "object")) true:=t1.andThen (Y.top.keeps k);refine codeAny_call_builtin oi_plain entry_oi (@check_slot (model prog w) _ _ _ "object.__init__" "object" "__init__" (.ref (hh.objs.size+1)) [] [] _ oi_kind oi_split t2 (oi_args _) ?_);rw[oi_run];exact am ⟨rfl,h⟩
structure KR (K:Frag) (C:Addr):Prop where
 makes:makesIn K C=true
 init:findIn K (.ref C) "__init__"=some (some (.builtin "object.__init__"))
 kp:keepIn K (.ref C)=true
abbrev JQ (C:Addr):TE:=λ_ H Q=>∀ x dx,H x=none->H dx=none->dx≠x->Q (.ref x) (upd (upd H dx (.own x)) x (.ins C dx []))
def xR {C:Addr}{x:Str}(M:KR X.K C)(hg:Gl X x)(hm:X.mg x=some (.ref C))(hdb:(x ==("__debug__":Str))=false):PE X (.Call (.Name x p) [] [] pos) (JQ C):=by
 intro Y s U H Q I h;refine bv (bt I hg hm ?_ hdb);refine W.callWith_K0 I.bL M.kp (wpAny_call (qO I.bL M.makes M.init ?_));have I2:=Inv.made (C:=C) I;exact⟨.ref (s.heap.objs.size+1),_,I2,rfl,h (s.heap.objs.size+1) s.heap.objs.size (I.hok.fresh (Nat.le_succ _)) (I.hok.fresh (pi _)) (pc (Nat.lt_succ_self _))⟩
@[reducible]def VV:List (V×V)->List (Value×Value)->Prop:=Paired λp q=>RelV p.1 q.1/\RelV p.2 q.2
abbrev PQ (X:Cx)(pos:Pos)(keys:List (Option Expr))(values:List Expr)(t:St->Hp->(List (V×V)->Hp->Prop)->Prop):Prop:=
 ∀ (Y:LF) (s:Shared) (U:St) (H:Hp) (Q:List (V×V)->Hp->Prop),Inv X Y U H s->t U H Q->
  wpAny (model X.prog X.w) X.A (evalPairs (pairTrees keys values X.env pos)) (λvs s'=>∃ ps H',Inv X Y U H' s'/\VV ps vs/\Q ps H') X.xe s
def FL:PQ X pos [] [] (λ_ H Q=>Q [] H):=λY s U H Q I h=>pairTrees_nil_walk ⟨[],H,I,.nil,h⟩
variable {t:St->Hp->(List (V×V)->Hp->Prop)->Prop}{vs:List Expr}
def Bp {k v:Expr}{ks:List (Option Expr)}{tk tv:TE}(hk:PE X k tk)(hv:PE X v tv)(hr:PQ X pos ks vs t):
  PQ X pos (some k::ks) (v::vs) (λU H Q=>tk U H λx H1=>tv U H1 λy H2=>t U H2 λps H3=>Q ((x,y)::ps) H3):=λY s U H Q I h=>
 pairTrees_cons_walk (aA (hk Y s U H _ I h) λu s1 ⟨x,H1,I1,rx,q1⟩=>aA (hv Y s1 U H1 _ I1 q1) λw2 s2 ⟨y,H2,I2,ry,q2⟩=>
  aA (hr Y s2 U H2 _ I2 q2) λws s3 ⟨ps,H3,I3,rel,q3⟩=>⟨(x,y)::ps,H3,I3,.cons ⟨rx,ry⟩ rel,q3⟩)
abbrev fY (kvs more:List (Key×V)):List (Key×V):=more.foldl (λacc kv=>putK acc kv.1 kv.2) kvs
def KV.merge:∀ {more:List (Key×V)}{rs:List (Key×Value)}{kvs:List (Key×V)}{vs:List (Key×Value)},KV more rs->KV kvs vs->KV (fY kvs more) (merged vs rs):=by
 intro more rs kvs vs r;unfold KV at r
 induction r generalizing kvs vs with
 |nil=>intro q;exact q
 | @cons p q ps qs h t ih=>
  intro r0;have e:KV (putK kvs p.1 p.2) (stored vs q.1 q.2):=by
   have:=r0.put p.1 h.2;rw[<-h.1];exact this
  exact ih e
def fB:∀ (more kvs:List (Key×V)),(fY kvs more).length<=kvs.length+more.length
 | [],kvs=>by show kvs.length<=kvs.length+0;omega
 |p::r,kvs=>by
  have h1:=fB r (putK kvs p.1 p.2);have h2:=d9 kvs p.1 p.2;show(fY (putK kvs p.1 p.2) r).length<=_;rw[length_cons];omega
def kr {P:Program}{w:World}:∀ {kvs:List (Key×V)}{ws:List (Value×Value)},VV (kvs.map λkv=>(kV kv.1,kv.2)) ws->∃ rs,Carries (av P w) ws rs/\KV kvs rs
 | [],_,r=>by rw[List.map_nil]at r;cases r;exact⟨[],True.intro,.nil⟩
 |p::kvs,_,r=>by
  rw[map_cons]at r;cases r with
  | @cons a b as bs h t=>
   obtain⟨rs,c,q⟩:=kr (P:=P) (w:=w) t;obtain⟨b1,b2⟩:=b;exact⟨(p.1,b2)::rs,⟨mf h.1,rfl,c⟩,.cons ⟨rfl,h.2⟩ q⟩
abbrev GI (t:St->Hp->(List (V×V)->Hp->Prop)->Prop):TE:=λU H Q=>∀ p,H p=none->t U (upd H p (.dK [])) λps H2=>H2 p=some (.dK [])/\∃ kvs:List (Key×V),ps=kvs.map (λkv=>(kV kv.1,kv.2))/\kvs.length<=15/\Q (.ref p) (upd H2 p (.dK (fY [] kvs)))
def BM {keys:List (Option Expr)}{values:List Expr}(h:PQ X pos keys values t)(hall:keys.all (·.isSome)=true)(hl:keys.length=values.length)(h0:keys≠[])
  (h15:keys.length<=15):PE X (.Dict keys values pos) (GI t):=by
 intro Y s U H Q I q;have hn:=I.hok.fresh (pi s.heap.objs.size);have I1:=I.laid (a:=s.heap.objs.size) (o:=.dK []) (h':=s.heap.push { cls:=.type "dict",data:=.dict #[] }) (t':=s.toks) (λ_ _ q=>sK _ q) (pi _) (wN s.heap I.big);refine wpAny_Dict_walk (knd:=av X.prog X.w) hall hl h0 h15 (aA (h Y _ U _ _ I1 (q _ hn)) λws s2 ⟨ps,H2,I2,rel,e,kvs,ep,lk,q2⟩=>?_);subst ep;obtain⟨rs,c,rk⟩:=kr (P:=X.prog) (w:=X.w) rel;obtain⟨z,hd,vs0,r0,dd⟩:=uI I2.hok e;cases r0;refine⟨rs,c,dd,λh' dd' hs=>⟨.ref s.heap.objs.size,_,?_,rfl,q2⟩⟩;have hz:(fY [] kvs).length<=bn:=by
  have h1:=fB kvs [];rw[length_nil]at h1;rw[sizeLine_eq];omega
 have he:∃ q,h'.get? s.heap.objs.size=some q:=let⟨q,_,_,hq,_⟩:=dd';⟨q,hq⟩;exact nV I2 (by rw[e];exact True.intro) hs he (rp hz hd (rk.merge .nil) dd')
abbrev zF:Expr->Nat
 | .Tuple vs _ _=>vs.length
 |_=>0
abbrev DR (sc:Scope)(tg v:Expr)(ns:List Str):Bool:=match swappedStores [tg] v { scope:=sc,locals:=0,globals:=0,cells:=[] } with
 | .pure (some l)=>l ==ns&&decide (zF v=ns.length)
 |_=>false
variable {tg:Expr}{ns:List Str}
def yX {env:Env}{v:Expr}(h:DR env.scope tg v ns=true):swappedStores [tg] v env=pure (some ns):=by
 have e:swappedStores [tg] v env=swappedStores [tg] v { scope:=env.scope,locals:=0,globals:=0,cells:=[] }:=by
  obtain⟨sc,a,b,c,d,f,g,i,j⟩:=env
  rfl
 rw[e];unfold DR at h
 split at h
 .rename_i l e2;rw[nb]at h;rw[e2,beq_iff_eq.mp h.1]
  rfl
 .cases h
variable {sc:Scope}
def tK {v:Expr}(h:DR sc tg v ns=true):zF v=ns.length:=by
 unfold DR at h
 split at h
 .rw[nb,decide_eq_true_eq]at h;exact h.2
 .cases h
def Ak {x y:Str}(h:DR sc tg (.Tuple vs k p) [x,y]=true):∃ a b,vs=[a,b]:=by
 have h:=tK h
 match vs,h with
 | [a,b],_=>exact⟨a,b,rfl⟩
def vi {x y z:Str}(h:DR sc tg (.Tuple vs k p) [x,y,z]=true):∃ a b c,vs=[a,b,c]:=by
 have h:=tK h
 match vs,h with
 | [a,b,c],_=>exact⟨a,b,c,rfl⟩
abbrev G3 (i j:Nat)(ta:TA):TS:=λD U H=>ta U H λvs H1=>∃ v w,vs=[v,w]/\D.nx ((U.set i (some v)).set j (some w)) H1
def As {i j:Nat}{x y:Str}{a b:Expr}{px py pt:Pos} {kt k2 pt2} (hc:X.calm=true)(hN:X.N.Nodup)(hi:X.N[i]? =some x)(hj:X.N[j]? =some y)(hij:i≠j)
  (hx:X.env.scope.names.lookup x=some .local) (hy:X.env.scope.names.lookup y=some .local) (ha:PA X [a,b] ta)
  (hw:swappedStores [.Tuple [.Name x px,.Name y py] kt pt] (.Tuple [a,b] k2 pt2) X.env=pure (some [x,y]))
  (hs:swapsWithSole [.Tuple [.Name x px,.Name y py] kt pt] (.Tuple [a,b] k2 pt2) pos.line X.env=pure false:=by rfl):
  PS X (.Assign [.Tuple [.Name x px,.Name y py] kt pt] (.Tuple [a,b] k2 pt2) pos) (G3 i j ta):=by
 intro Y s U H D I h;rw[exec_Assign_arm];refine ad (wpAny_standAt ?_);rw[hs];refine ad (am ?_);rw[if_neg (by decide)];refine ad (Tuple_ (aA (ha _ Y s U H _ I h) λus s1 ⟨vs,H1,I1,r1,q1⟩=>?_));obtain⟨v,w,e1,q1⟩:=q1;subst e1;obtain⟨u1,u2,rfl,rv,rw'⟩:∃ u1 u2,us=[u1,u2]/\RelV v u1/\RelV w u2:=by
  cases r1 with
  |cons p q=>
   cases q with
   |cons p' q'=>
    cases q';exact⟨_,_,rfl,p,p'⟩
 refine wpAny_newObj_type ?_ (by show 2<=bn;decide);have I2:Inv X Y U H1 { s1 with heap:=s1.heap.push { cls:=.type "tuple",data:=.seq [u1,u2].toArray } }:=I1.kept (t':=s1.toks) λb o e=>sK _ e
 rw[hw];refine ad (am ?_);show wpAny (model X.prog X.w) X.A (do rule "assign.swapped-stores";let items <-unpackItems (.ref s1.heap.objs.size) 2 none;assignInOrder [λv=>bindName X.env y v,λv=>bindName X.env x v] items.reverse;pure Flow.next) _ _ _;refine ad (wpAny_rule (ad (unpackItems_tuple (items:=#[u1,u2]) (I.ok.hd hc) (IsTup.new s1.heap _) λh' hx'=>?_)));have I3:=I2.kept (h':=h') (t':=s1.toks) λb o e=>hx' b o (pc (tz e)) e
 show wpAny _ _ (assignInOrder [λv=>bindName X.env y v,λv=>bindName X.env x v] [u2,u1] >>= λ_=>pure Flow.next) _ _ _;refine ad (assignInOrder_cons (wpAny_bindName (bp I3 hN hj (.inl hy) rw' (λs2 I4=>?_) (.inr hy))));refine assignInOrder_cons (wpAny_bindName (bp I4 hN hi (.inl hx) rv (λs3 I5=>assignInOrder_nil (am ?_)) (.inr hx)));rw[set_comm _ _ (Ne.symm hij)]at I5;exact⟨_,H1,I5,q1⟩
abbrev HQ (i j l:Nat)(ta:TA):TS:=λD U H=>ta U H λvs H1=>∃ v w x,vs=[v,w,x]/\D.nx (((U.set i (some v)).set j (some w)).set l (some x)) H1
def An {i j l:Nat}{x y z:Str}{a b c:Expr}{px py pz pt:Pos} {kt k2 pt2} (hc:X.calm=true)(hN:X.N.Nodup)(hi:X.N[i]? =some x)(hj:X.N[j]? =some y)(hl:X.N[l]? =some z)(hij:i≠j)(hil:i≠l)(hjl:j≠l)
  (hx:X.env.scope.names.lookup x=some .local) (hy:X.env.scope.names.lookup y=some .local) (hz:X.env.scope.names.lookup z=some .local) (ha:PA X [a,b,c] ta)
  (hw:swappedStores [.Tuple [.Name x px,.Name y py,.Name z pz] kt pt] (.Tuple [a,b,c] k2 pt2) X.env=pure (some [x,y,z]))
  (hs:swapsWithSole [.Tuple [.Name x px,.Name y py,.Name z pz] kt pt] (.Tuple [a,b,c] k2 pt2) pos.line X.env=pure false:=by rfl):
  PS X (.Assign [.Tuple [.Name x px,.Name y py,.Name z pz] kt pt] (.Tuple [a,b,c] k2 pt2) pos) (HQ i j l ta):=by
 intro Y s U H D I h;rw[exec_Assign_arm];refine ad (wpAny_standAt ?_);rw[hs];refine ad (am ?_);rw[if_neg (by decide)];refine ad (Tuple_ (aA (ha _ Y s U H _ I h) λus s1 ⟨vs,H1,I1,r1,q1⟩=>?_));obtain⟨v,w,x',e1,q1⟩:=q1;subst e1;obtain⟨u1,u2,u3,rfl,rv,rw',rx'⟩:∃ u1 u2 u3,us=[u1,u2,u3]/\RelV v u1/\RelV w u2/\RelV x' u3:=by
  cases r1 with
  |cons p q=>
   cases q with
   |cons p' q'=>
    cases q' with
    |cons p2 q2=>
     cases q2;exact⟨_,_,_,rfl,p,p',p2⟩
 refine wpAny_newObj_type ?_ (by show 3<=bn;decide);have I2:Inv X Y U H1 { s1 with heap:=s1.heap.push { cls:=.type "tuple",data:=.seq [u1,u2,u3].toArray } }:=I1.kept (t':=s1.toks) λb o e=>sK _ e
 rw[hw];refine ad (am ?_);show wpAny (model X.prog X.w) X.A (do rule "assign.swapped-stores";let items <-unpackItems (.ref s1.heap.objs.size) 3 none;assignInOrder [λv=>bindName X.env z v,λv=>bindName X.env y v,λv=>bindName X.env x v] items.reverse;pure Flow.next) _ _ _;refine ad (wpAny_rule (ad (unpackItems_tuple (items:=#[u1,u2,u3]) (I.ok.hd hc) (IsTup.new s1.heap _) λh' hx'=>?_)));have I3:=I2.kept (h':=h') (t':=s1.toks) λb o e=>hx' b o (pc (tz e)) e
 show wpAny _ _ (assignInOrder [λv=>bindName X.env z v,λv=>bindName X.env y v,λv=>bindName X.env x v] [u3,u2,u1] >>= λ_=>pure Flow.next) _ _ _;refine ad (assignInOrder_cons (wpAny_bindName (bp I3 hN hl (.inl hz) rx' (λs2 I4=>?_) (.inr hz))));refine assignInOrder_cons (wpAny_bindName (bp I4 hN hj (.inl hy) rw' (λs3 I5=>?_) (.inr hy)));refine assignInOrder_cons (wpAny_bindName (bp I5 hN hi (.inl hx) rv (λs4 I6=>assignInOrder_nil (am ?_)) (.inr hx)));rw[set_comm _ _ (Ne.symm hij),set_comm _ _ (Ne.symm hil),set_comm _ _ (Ne.symm hjl)]at I6;exact⟨_,H1,I6,q1⟩
abbrev rM (K:W.Frag)(C:Addr):Bool:=findIn K (.ref C) "__ne__" ==some (some (.builtin "object.__ne__"))&&yw K C
section
variable {A:Around}{s:Shared}{l C dx:Addr}{od:Option Obj}{K:W.Frag}{prog:Program}{w:World}{E:LD}
def G9 (X:K.In s.heap)(I:InstAt s.heap l (instObj C dx) C od)(h1:findIn K (.ref C) "__eq__"=some (some (.builtin "object.__eq__"))) (h3:subIn K (.ref C) (.type "object")=some true) (h:Q (some (.bool true)) s):wpAny (model prog w) A (callSpecialIfBound? (.ref l) "__eq__" [.ref l]) Q E s:=by
 simp only[callSpecialIfBound?,bindSpecialIfBound?];refine bd (ad (ad (ad (I.type.here ((looks_findIn X h1).here ?_)))));simp only[PySem.F.cmp_object.eq.bind];have fin:wpAny (model prog w) A (call (.builtin "object.__eq__") ([.ref l]++[.ref l]) >>= λv=>pure (some v)) Q E s:=by
  refine ad (wpAny_call (codeAny_call_builtin PySem.F.cmp_object.eq.plain PySem.F.cmpEntry_eq ?_));simp only[checkBuiltinCall,PySem.F.cmpKind_eq,PySem.F.cmpSplit_eq];refine ad (ad (I.type.here ((looks_subIn X h3).here ?_)));rw[if_neg (by simp)];have ha:=PySem.F.cmpArgs_eq (.ref l) (.ref l);have h0:(match Manifest.signature? "object.__eq__" with|some sig=>Bind.checkArgs "object.__eq__" sig { pos:=[Value.ref l]++[Value.ref l] }|x=>pure ())=pure ():=ha;refine wpAny_of_eq h0 ?_;exact objEq_entry_same (am h)
 refine ad (wpAny_askSetting (wpAny_ite ?_))
 split
 .exact ad (am (am fin))
 .exact wpAny_tryCatch (ad (am (am fin)))
def GL (X:K.In s.heap)(I:InstAt s.heap l (instObj C dx) C od)(h1:findIn K (.ref C) "__eq__"=some (some (.builtin "object.__eq__"))) (h2:findIn K (.ref C) "__ne__"=some (some (.builtin "object.__ne__"))) (h3:subIn K (.ref C) (.type "object")=some true) (hu:A.units+2<cLine) (h:Q (some (.bool false)) s):wpAny (model prog w) A (callSpecialIfBound? (.ref l) "__ne__" [.ref l]) Q E s:=by
 simp only[callSpecialIfBound?,bindSpecialIfBound?];refine bd (ad (ad (ad (I.type.here ((looks_findIn X h2).here ?_)))));simp only[PySem.F.cmp_object.ne.bind];have fin:wpAny (model prog w) A (call (.builtin "object.__ne__") ([.ref l]++[.ref l]) >>= λv=>pure (some v)) Q E s:=by
  refine ad (wpAny_call (codeAny_call_builtin PySem.F.cmp_object.ne.plain PySem.F.cmpEntry_ne ?_));simp only[checkBuiltinCall,PySem.F.cmpKind_ne,PySem.F.cmpSplit_ne];refine ad (ad (I.type.here ((looks_subIn X h3).here ?_)));rw[if_neg (by simp)];have ha:=PySem.F.cmpArgs_ne (.ref l) (.ref l);have h0:(match Manifest.signature? "object.__ne__" with|some sig=>Bind.checkArgs "object.__ne__" sig { pos:=[Value.ref l]++[Value.ref l] }|x=>pure ())=pure ():=ha;refine wpAny_of_eq h0 ?_;unfold Builtin.«object.__ne__»;show wpAny _ _ (pure (Value.ref l,[Value.ref l]) >>= _) _ _ _;refine ad (am ?_);refine ad (wpAny_cRoomFor (show A.units+1<cLine by omega) ?_);refine ad (G9 X I h1 h3 ?_);refine ad (bi ?_);exact am (am h)
 refine ad (wpAny_askSetting (wpAny_ite ?_))
 split
 .exact ad (am (am fin))
 .exact wpAny_tryCatch (ad (am (am fin)))
def vT (X:K.In s.heap)(I:InstAt s.heap l (instObj C dx) C od)(hC:rM K C=true)(hu:A.units+3<cLine):SeqAt.RcNeAt A s (.ref l) (.ref l) false:=λprog w E Q h=>by
 unfold rM yw at hC;simp only[nb,beq_iff_eq]at hC;obtain⟨h0,⟨h1,h2⟩,h3⟩:=hC;simp only[richCompare,PySem.cmpInfo_NotEq]
 try with_reducible refine bd ?_
 refine ad (wpAny_cRoomFor nofun ?_);show wpAny _ _ (typeOf (Value.ref l) >>= _) _ _ _;refine ad (I.type.here (ad (I.type.here ?_)));rw[if_neg (by simp)];refine ad (am ?_);rw[if_neg (by simp)];refine ad ?_;simp only[tryCompare];refine ad (GL X I h1 h0 h3 nofun ?_);exact am (am h)
def G1 (d:Addr)(hd:(d ==sysModules)=false)(dd:Option Addr)(ep:Nat)(sl:Array (Option Value)):Meets (Builtin.«dict.__ne__» ⟨[.ref d,.ref d],[]⟩) (λ_ R s=>s.heap.get? d=some ⟨.type "dict",dd,.dict #[] ep,sl⟩/\R (.ok (.ret (.bool false))) s):=by
 intro prog w A R s hs;obtain⟨h,g,dp,tt,os⟩:=s;obtain⟨ho,q⟩:=hs;have hT:(⟨h,g,dp,tt,os⟩:Shared).TypeIs (.ref d) "dict":=⟨_,ho,rfl⟩;unfold Builtin.«dict.__ne__»
 k_delta "equality"
 unfold Builtin.Dict.dictSlotArgs;refine ad (ad (wpAny_notOrdered_dict hT ?_));show wpAny _ _ (pure (Value.ref d,[Value.ref d]) >>= _) _ _ _;refine ad (am (am ?_));have hi:=PySem.F.kt_sub_dict;show wpAny _ _ (isInstance (.ref d) (.type "dict") >>= _) _ _ _;unfold Builtin.Dict.samePairs;simp only[Std.Legacy.Range.forIn_eq_forIn_range']
 repeat(any_goals first|assumption|wp_step)
def Bt (hd:(d ==sysModules)=false){ep:Nat}(ho:s.heap.get? d=some ⟨.type "dict",dd,.dict #[] ep,sl⟩) (hu:A.units<cLine):SeqAt.RcNeAt A s (.ref d) (.ref d) false:=λprog w E Q h=>
 richCompare_meets_room (op:=.NotEq) ⟨_,ho,rfl⟩ ⟨_,ho,rfl⟩ PySem.F.slot_dict_ne PySem.F.entry_dict_ne (PySem.F.args_dict_ne_2 _ _) (G1 d hd dd ep sl) ⟨ho,show Value.bool false≠Value.notImplemented/\Q (.bool false) s from⟨(λx=>nomatch x),h⟩⟩ hu
abbrev yJ (K:W.Frag)(H:Hp)(a:Addr):Prop:=(∃ xs,bg K H a xs)\/H a=some (.dK [])\/(∃ C dx fs,H a=some (.ins C dx fs)/\rM K C=true)\/∃ xs,bj K H a xs
def Bk {a:Addr}(I:Inv X Y U H s)(h:yJ X.K H a)(hu:A.units+3<cLine):SeqAt.RcNeAt A s (.ref a) (.ref a) false:=by
 rcases h with⟨xs,h⟩|h|⟨C,dx,fs,h,hn⟩|⟨xs,h⟩
 .obtain⟨ia,ra,pa,_⟩:=I.tuple h;have rc:=SeqAt.RcNeAt.tuples (A:=A) (e:=λ_=>true) (show s.heap.IsTuple a ia.toArray from pa) (show s.heap.IsTuple a ia.toArray from pa) nofun λj h1 h2=>SeqAt.EqAt.same _
  have e:((List.range (min ia.toArray.size ia.toArray.size)).all (λ_=>true)&&ia.toArray.size ==ia.toArray.size)=true:=by simp
  rw[e]at rc;exact rc
 .obtain⟨z,hd,vs,rel,dd⟩:=iT I.hok (.inl h);cases rel;obtain⟨⟨c,d,da,sl⟩,es,ep,ho,hx,he,_,hp,_⟩:=dd;have e0:es=#[]:=by
   cases hp':es.toList with
   |nil=>exact Array.toList_eq_nil_iff.mp hp'
   |cons a b=>rw[hp']at hp;cases hp
  subst e0;obtain rfl:da=.dict #[] ep:=he;obtain⟨rfl,_⟩:=hx;exact Bt hd ho nofun
 .obtain⟨mA,o,_⟩:=gU I.hok h;obtain⟨od,i,_⟩:=o.look;exact vT I.bL i hn hu
 .obtain⟨ia,ra,pa,_⟩:=I.list h;have rc:=SeqAt.RcNeAt.lists (A:=A) (e:=λ_=>true) pa.isList pa.isList rfl nofun λj h1 h2=>SeqAt.EqAt.same _
  have e:(List.range ia.toArray.size).all (λ_=>true)=true:=by simp
  rw[e]at rc;exact rc
end
end L2
namespace L2
open PySem PySem.Spec PyProof.Rows
section
variable {X:Cx}{tg:Expr}
end
end L2
namespace L2
open PySem PySem.Spec PySem.W PyProof.Rows
open PySem.AutoSeq1 (wpAny_loadPart')
section
variable {prog:Program}{w:World}{A:Around}{E:LD}{s:Shared}
end
variable {kvs:List (Key×V)}
section
variable {X:Cx}{Y:LF}{U:St}{H:Hp}{s:Shared}
def wt {o:Option V}{w:Option Value}{d:V}{r:Value}(h:cL o w)(rd:RelV d r):RelV (o.getD d) (w.getD r):=by
 cases o<;>cases w
 .exact rd
 .exact False.elim h
 .exact False.elim h
 .exact h
def Dl {a:Addr}{k:Key}{d:V}{u r:Value}{A:Around}{E:LD}{Q:LD}(I:Inv X Y U H s)(e:H a=some (.dK kvs))(ry:RelV (kV k) u)(rd:RelV d r)(q:∀ w' s',Inv X Y U H s'->RelV ((fm kvs k).getD d) w'->Q w' s'):
  wpAny (model X.prog X.w) A (call (.builtin "dict.get") [.ref a,u,r]) Q E s:=by
 obtain⟨_,hd,vs,rel,dd⟩:=uI I.hok e;exact call_meetsIn PySem.F.slot_dict_get dd.typeIs PySem.F.entry_dict_get (PySem.F.args_dict_get_3 _ _ _) (meets_dict_get_default (av X.prog X.w) a (mf ry) hd r) ⟨_,dd.mapOf,q _ _ (I.tok _) (wt (rel.val k) rd)⟩
abbrev Jp (td:TE)(t:TA):TE:=λU H Q=>td U H λx H1=>∃ a kvs0,x=.ref a/\H1 a=some (.dK kvs0)/\t U H1 λvs H2=>∃ kvs k d,vs=[kV k,d]/\H2 a=some (.dK kvs)/\Q ((fm kvs k).getD d) H2
def Ef {o e:Expr}{es:List Expr}{td:TE}{t:TA}{apos cpos:Pos}(ho:PE X o td)(ha:PA X (e::es) t)(hbase:attributeBase o "get" X.env (eval o X.env)=eval o X.env)
  (hfew:((backTo cpos (bm (e::es) X.env)).all (λx=>!x.1)&&(backToKw cpos (keywordEach [] X.env)).all (λx=>x.1.isSome)&&decide ((e::es).length+([]:List Keyword).length+(if([]:List Keyword).isEmpty then 0 else 1)<30))=true)
  (hline:(apos.endLine ==cpos.line)=true) (hs:bm (e::es) X.env=(false,eval e X.env)::bm es X.env) (hplain:(backTo cpos (bm es X.env)).any (·.1)=false):
  PE X (.Call (.Attribute o "get" apos) (e::es) [] cpos) (Jp td t):=by
 intro Y s U H Q I h;refine wpAny_Call_method_late hbase hfew hline rfl (aA (ho Y s U H _ I h) λv s1 ⟨x,H1,I1,r1,a,kvs0,ex,e0,q1⟩=>?_);subst ex;obtain rfl:v=Value.ref a:=r1;obtain⟨_,hd,vs,_,dd⟩:=uI I1.hok e0;refine⟨"dict","dict.get",PySem.F.plainAttrs_dict,PySem.F.slot_dict_get,PySem.F.type_dict_get,dd.typeIs,λb q=>?_,?_⟩
 .cases q;obtain⟨ob,_,_,h1,h2,_⟩:=dd;exact⟨ob,h1,h2.2.1⟩
 have hA:=ha cpos Y s1 U H1 _ I1 q1;rw[hs]at hA⊢;refine Calls.callWith_builtin (by show(false||(backTo cpos (bm es X.env)).any (·.1))=false;rw[hplain]<;>rfl) (Calls.evalArgs_plain ?_);refine aA hA λus s2 ⟨vs,H2,I2,r2,kvs,k,d,ev,e2,q2⟩=>?_
 subst ev;cases r2 with
 |cons ry rr=>
  cases rr with
  |cons rd rr=>
   cases rr;exact Dl I2 e2 ry rd λw' s3 I3 rw'=>⟨_,H2,I3,rw',q2⟩
end
section
variable {prog:Program}{w:World}{A:Around}{E:LD}{s:Shared}
variable {z TI TO i1 i2 i3 l1 l2 l3:Addr}{k1 k2 k3:Nat}{tp1 tp2 tp3:Bool}{xs ys zs:Array Value}{x y v a b c f1:Value}
end
variable {X:Cx}{e es:Expr}{te:TE}{ts:TO}{p2 pos:Pos}
def tJ:∀ {xs:List V}{us:List Value},xs.length=us.length->(∀ (j:Nat) (x:V) (u:Value),xs[j]? =some x->us[j]? =some u->RelV x u)->Vals xs us
 | [],[],_,_=>.nil
 |x::xs,u::us,e,h=>.cons (h 0 x u rfl rfl) (tJ (Nat.succ.inj e) λj a b e1 e2=>h (j+1) a b e1 e2)
def sZ:∀ {kvs:List (Key×V)}{vs:List (Key×Value)},KV kvs vs->kvs.map (·.1)=vs.map (·.1)
 |_,_,.nil=>rfl
 |_,_,.cons r rs=>by rw[map_cons,map_cons,r.1,sZ rs]
def rW {Y:LF}{U:St}{H:Hp}{s:Shared}{Q:VK}{d:Addr}(hc:X.calm=true)(I:Inv X Y U H s)(e:H d=some (.dK kvs))(q:∀ p,H p=none->Q (.ref p) (upd H p (.lst (kvs.map (λkv=>kV kv.1))))):
  wpAny (model X.prog X.w) X.A (call (.type "list") [.ref d]) (EP X Y U Q) X.xe s:=by
 obtain⟨hz,hd,vs,rel,dd⟩:=iT I.hok (.inl e);obtain⟨o,es,ep,ho,hx,he,hk,hp,hn⟩:=dd;have hA:s.heap.DictAt (av X.prog X.w) d vs ep:=⟨o,es,ho,hx,he,hk,hp,hn⟩;have hl:vs.length<=bn:=by rw[<-rel.length];exact hz
 refine kdl_call (kdl_dict hd) (I.ok.hd hc) hA hl λh' tk acc c' hk' hD hi=>?_
 have r:Vals (kvs.map (λkv=>kV kv.1)) acc.toList:=tJ ((ce ..).trans (rel.length.trans (hi.1.symm.trans Array.length_toList.symm))) λj x u e1 e2=>by
  rw[im]at e1;obtain⟨⟨k,y⟩,ek,rfl⟩:=nl.mp e1;obtain⟨k',y',ek',hs⟩:=hi.2 j u (by rw[<-Array.getElem?_toList];exact e2);have ekk:k=k':=by
   have h2:(kvs.map (·.1))[j]? =(vs.map (·.1))[j]? :=by rw[sZ rel]
   rw[im,im,ek,ek']at h2;exact Option.some.inj h2
  subst ekk;rcases aI hs with⟨i,t,rfl,rfl⟩|⟨z,t,rfl,rfl⟩
  .exact⟨t,rfl⟩
  .exact⟨t,rfl⟩
 exact⟨.ref _,_,I.laid (t':=tk) hk' (pi _) (show aL X.prog X.w _ h' _ (.lst (kvs.map (λkv=>kV kv.1))) from⟨by rw[ce];exact hz,acc.toList,c',r,by rw[Array.toArray_toList];exact hD⟩),rfl,q _ (I.hok.fresh (pi _))⟩
end L2
namespace L2
open PySem PySem.Spec PyProof.Rows
inductive dO (K:W.Frag) (H:Hp):Nat->V->V->Bool->Prop where
 |flat {n:Nat}{x y:V}(fx:aT x=true) (fy:aT y=true):dO K H n x y (cH x y)
 |same {n:Nat}(a:Addr):dO K H (n+1) (.ref a) (.ref a) true
 |ll {n:Nat}{a b:Addr}{xs ys:List V}{e:Nat->Bool}(ha:bj K H a xs) (hb:bj K H b ys) (hl:xs.length=ys.length) (h:∀ j x y,xs[j]? =some x->ys[j]? =some y->dO K H (n+1) x y (e j)):dO K H (n+2) (.ref a) (.ref b) ((List.range xs.length).all e)
 |tt {n:Nat}{a b:Addr}{xs ys:List V}{e:Nat->Bool}(ha:bg K H a xs) (hb:bg K H b ys) (h:∀ j x y,xs[j]? =some x->ys[j]? =some y->dO K H (n+1) x y (e j)):dO K H (n+2) (.ref a) (.ref b) ((List.range (min xs.length ys.length)).all e&&xs.length ==ys.length)
variable {A:Around}
section
variable {X:Cx}{Y:LF}{s:Shared}{U:St}{H:Hp}
def wY {y x:V}{u v:Value}(ry:RelV y u)(rx:RelV x v)(fy:aT y=true)(fx:aT x=true):SeqAt.RcAt A s u v (cH y x):=by
 cases y<;>first|cases fy|skip
 all_goals (cases x<;>first|cases fx|skip)
 all_goals (first|(obtain⟨t,rfl⟩:=ry)|cases ry)
 all_goals (first|(obtain⟨t',rfl⟩:=rx)|cases rx)
 .exact SeqAt.RcAt.none_none
 .exact SeqAt.RcAt.none_bool _
 .exact SeqAt.RcAt.none_int _ _
 .exact SeqAt.RcAt.none_str _ _
 .exact SeqAt.RcAt.bool_none _
 .exact SeqAt.RcAt.bool_bool _ _
 .exact SeqAt.RcAt.bool_int _ _ _
 .exact SeqAt.RcAt.bool_str _ _ _
 .exact SeqAt.RcAt.int_none _ _
 .exact SeqAt.RcAt.int_bool _ _ _
 .exact SeqAt.RcAt.int_int _ _ _ _
 .exact SeqAt.RcAt.int_str _ _ _ _
 .exact SeqAt.RcAt.str_none _ _
 .exact SeqAt.RcAt.str_bool _ _ _
 .exact SeqAt.RcAt.str_int _ _ _ _
 .exact SeqAt.RcAt.str_str _ _ _ _
def qq {y x:V}{u v:Value}(ry:RelV y u)(rx:RelV x v)(fy:aT y=true)(fx:aT x=true):SeqAt.RcNeAt A s u v (!cH y x):=by
 cases y<;>first|cases fy|skip
 all_goals (cases x<;>first|cases fx|skip)
 all_goals (first|(obtain⟨t,rfl⟩:=ry)|cases ry)
 all_goals (first|(obtain⟨t',rfl⟩:=rx)|cases rx)
 .exact SeqAt.RcNeAt.none_none
 .exact SeqAt.RcNeAt.none_bool _
 .exact SeqAt.RcNeAt.none_int _ _
 .exact SeqAt.RcNeAt.none_str _ _
 .exact SeqAt.RcNeAt.bool_none _
 .exact SeqAt.RcNeAt.bool_bool _ _
 .exact SeqAt.RcNeAt.bool_int _ _ _
 .exact SeqAt.RcNeAt.bool_str _ _ _
 .exact SeqAt.RcNeAt.int_none _ _
 .exact SeqAt.RcNeAt.int_bool _ _ _
 .exact SeqAt.RcNeAt.int_int _ _ _ _
 .exact SeqAt.RcNeAt.int_str _ _ _ _
 .exact SeqAt.RcNeAt.str_none _ _
 .exact SeqAt.RcNeAt.str_bool _ _ _
 .exact SeqAt.RcNeAt.str_int _ _ _ _
 .exact SeqAt.RcNeAt.str_str _ _ _ _
def eqv_refl (I:Inv X Y U H s):∀ {n:Nat}{x y:V}{b:Bool},dO X.K H n x y b->x=y->b=true:=by
 intro n x y b h
 induction h with
 | @flat n x y fx fy=>
  rintro rfl;cases x<;>first|(exact absurd fx Bool.false_ne_true)|simp[cH]
 |same a=>intro _;rfl
 | @ll n a b xs ys e ha hb hl h ih=>
  intro z;cases z;have:=I.kX ha hb;subst this;rw[all_eq_true];intro j hj;have hj':j<xs.length:=mem_range.mp hj;exact ih j _ _ (li hj') (li hj') rfl
 | @tt n a b xs ys e ha hb h ih=>
  intro z;cases z;have:=I.hW ha hb;subst this;rw[beq_self_eq_true,Bool.and_true,Nat.min_self,all_eq_true];intro j hj;have hj':j<xs.length:=mem_range.mp hj;exact ih j _ _ (li hj') (li hj') rfl
def la (I:Inv X Y U H s):∀ {n:Nat}{x y:V}{b:Bool},dO X.K H n x y b->∀ {A:Around}{u v:Value},A.units+n<cLine->RelV x u->RelV y v->
  (SeqAt.EqAt A s u v b)/\(x=y\/SeqAt.RcAt A s u v b/\SeqAt.RcNeAt A s u v (!b)):=by
 intro n x y b h
 induction h with
 |flat fx fy=>intro A u v _ rx ry;exact⟨zI rx ry fx fy,.inr ⟨wY rx ry fx fy,qq rx ry fx fy⟩⟩
 |same a=>intro A u v _ rx ry;cases rx;cases ry;exact⟨SeqAt.EqAt.same _,.inl rfl⟩
 | @ll n a b xs ys e ha hb hl h ih=>
  intro A u v hu rx ry;have hall:=dO.ll ha hb hl h;cases rx;cases ry
  by_cases hab:a=b
  .subst hab;have z:=eqv_refl I hall rfl;rw[z];exact⟨SeqAt.EqAt.same _,.inl rfl⟩
  obtain⟨ia,ra,pa,_⟩:=I.list ha;obtain⟨ib,rb,pb,_⟩:=I.list hb;have e1:ia.toArray.size=xs.length:=by rw[ge,ra.length]
  have e2:ib.toArray.size=ys.length:=by rw[ge,rb.length]
  have he:∀ j (h1:j<ia.toArray.size) (h2:j<ib.toArray.size),SeqAt.EqAt A.in1 s ia.toArray[j] ib.toArray[j] (e j):=λj h1 h2=>by
   obtain⟨x1,f1,r1⟩:=jM ra h1;obtain⟨y1,f2,r2⟩:=jM rb h2;exact(ih j x1 y1 f1 f2 (by show A.units+1+(n+1)<cLine;omega) r1 r2).1
  have rc:=SeqAt.RcAt.lists (A:=A) pa.isList pb.isList (by rw[e1,e2,hl]) nofun he;have rn:=SeqAt.RcNeAt.lists (A:=A) pa.isList pb.isList (by rw[e1,e2,hl]) nofun he;rw[e1]at rc rn;exact⟨SeqAt.EqAt.of_refs hab rc,.inr ⟨rc,rn⟩⟩
 | @tt n a b xs ys e ha hb h ih=>
  intro A u v hu rx ry;have hall:=dO.tt ha hb h;cases rx;cases ry
  by_cases hab:a=b
  .subst hab;have z:=eqv_refl I hall rfl;rw[z];exact⟨SeqAt.EqAt.same _,.inl rfl⟩
  obtain⟨ia,ra,pa,_⟩:=I.tuple ha;obtain⟨ib,rb,pb,_⟩:=I.tuple hb;have e1:ia.toArray.size=xs.length:=by rw[ge,ra.length]
  have e2:ib.toArray.size=ys.length:=by rw[ge,rb.length]
  have he:∀ j (h1:j<ia.toArray.size) (h2:j<ib.toArray.size),SeqAt.EqAt A.in1 s ia.toArray[j] ib.toArray[j] (e j):=λj h1 h2=>by
   obtain⟨x1,f1,r1⟩:=jM ra h1;obtain⟨y1,f2,r2⟩:=jM rb h2;exact(ih j x1 y1 f1 f2 (by show A.units+1+(n+1)<cLine;omega) r1 r2).1
  have rc:=SeqAt.RcAt.tuples (A:=A) (show s.heap.IsTuple a ia.toArray from pa) (show s.heap.IsTuple b ib.toArray from pb) nofun he;have rn:=SeqAt.RcNeAt.tuples (A:=A) (show s.heap.IsTuple a ia.toArray from pa) (show s.heap.IsTuple b ib.toArray from pb) nofun he;rw[e1,e2]at rc rn;exact⟨SeqAt.EqAt.of_refs hab rc,.inr ⟨rc,rn⟩⟩
@[irreducible] noncomputable def eB (K:W.Frag) (neg:Bool):R2:=λx y H Q=>∃ n b,dO K H n x y b/\n<=100/\(aT x=true\/x≠y\/(neg=false/\∃ a,x=.ref a/\rZ K H a)\/(neg=true/\∃ a,x=.ref a/\yJ K H a))/\Q (.bl (if neg then !b else b)) H
def ED (hu:X.A.units+200<cLine):cU X (compareOp .Eq) (eB X.K false):=by
 intro Y s U H x y v u Q I rx ry h;unfold eB at h;obtain⟨n,b,e,hn,hx,q⟩:=h;rcases(la I e (A:=X.A) nofun rx ry).2 with z|⟨z,_⟩
 .subst z;rcases hx with hx|hx
  .have z:=eqv_refl I e rfl;have r:=wY (s:=s) (A:=X.A) rx ry hx hx;have z2:=eqv_refl I (dO.flat (K:=X.K) (H:=H) (n:=0) hx hx) rfl;rw[z2]at r;rw[z]at q;exact PySem.EqBoolInt.of_rc r ⟨.bl true,H,I,rfl,q⟩
  rcases hx with hx|⟨_,a,rfl,hs⟩|⟨hx,_⟩
  .exact absurd rfl hx
  .have z:=eqv_refl I e rfl;rw[z]at q;cases rx;cases ry;exact PySem.EqBoolInt.of_rc (Cc (A:=X.A) I hs nofun) ⟨.bl true,H,I,rfl,q⟩
  .cases hx
 .exact PySem.EqBoolInt.of_rc z ⟨.bl b,H,I,rfl,q⟩
def Dq (hu:X.A.units+200<cLine):cU X (compareOp .NotEq) (eB X.K true):=by
 intro Y s U H x y v u Q I rx ry h;unfold eB at h;obtain⟨n,b,e,hn,hx,q⟩:=h;rcases(la I e (A:=X.A) nofun rx ry).2 with z|⟨_,z⟩
 .subst z;rcases hx with hx|hx
  .have z:=eqv_refl I e rfl;have r:=qq (s:=s) (A:=X.A) rx ry hx hx;have z2:=eqv_refl I (dO.flat (K:=X.K) (H:=H) (n:=0) hx hx) rfl;rw[z2]at r;rw[z]at q;exact PySem.EqBoolInt.of_rcne r ⟨.bl false,H,I,rfl,q⟩
  rcases hx with hx|⟨hx,_⟩|⟨_,a,rfl,hs⟩
  .exact absurd rfl hx
  .cases hx
  .have z:=eqv_refl I e rfl;rw[z]at q;cases rx;cases ry;exact PySem.EqBoolInt.of_rcne (Bk (A:=X.A) I hs nofun) ⟨.bl false,H,I,rfl,q⟩
 .exact PySem.EqBoolInt.of_rcne z ⟨.bl (!b),H,I,rfl,q⟩
end
@[irreducible] noncomputable def HS (K:W.Frag) (a b:Addr) (H:Hp) (Q:VK):Prop:=(∃ xs ys,H a=some (.lst xs)/\H b=some (.lst ys)/\xs.length+ys.length<=100000/\∀ p,H p=none->Q (.ref p) (upd H p (.lst (xs++ys))))\/False
@[irreducible] noncomputable def Bv (K:W.Frag) (a:Addr) (k:Int) (H:Hp) (Q:VK):Prop:=(∃ xs,H a=some (.lst xs)/\ -1000<=k/\k<=1000/\xs.length<=1000/\∀ p,H p=none->Q (.ref p) (upd H p (.lst (sn k.toNat xs).flatten)))\/False
abbrev FV (K:W.Frag):R2:=λx y H Q=>match x,y with
 | .int i,.int j=>Q (.int (i+j)) H
 | .str a,.str b=>a.length+b.length<=100000/\Q (.str (a++b)) H
 | .ref a,.ref b=>HS K a b H Q
 |_,_=>False
abbrev DA:R2:=λx y H Q=>match x,y with
 | .int i,.int j=>Q (.int (i-j)) H
 |_,_=>False
abbrev EW (K:W.Frag):R2:=λx y H Q=>match x,y with
 | .int i,.int j=>qa i j/\Q (.int (i*j)) H
 | .ref a,.int k=>Bv K a k H Q
 |_,_=>False
abbrev E9:R2:=λx y H Q=>match x,y with
 | .int i,.int j=>(0<j/\j<1073741824)/\Q (.int (i / j)) H
 |_,_=>False
abbrev E0:R2:=λx y H Q=>match x,y with
 | .int i,.int j=>0<j/\Q (.int (i % j)) H
 |_,_=>False
abbrev Dp:R2:=λx y H Q=>match x,y with
 | .int i,.int j=>BC i j/\Q (.int (i ^ j.toNat)) H
 |_,_=>False
abbrev EG (K:W.Frag)(op:Operator):R2:=match op with
 | .Add=>FV K
 | .Sub=>DA
 | .Mult=>EW K
 | .FloorDiv=>E9
 | .Mod=>E0
 | .Pow=>Dp
 |_=>λ_ _ _ _=>False
section
variable {X:Cx}
def mw {n:Nat}(h:n<=1000000):n<=bn:=by rw[sizeLine_eq];omega
def EX (op:Operator):cU X (binaryOp op) (EG X.K op):=by
 intro Y s U H x y v u Q I rx ry h;cases op with
 |Add=>
  have h':FV X.K x y H Q:=h;unfold FV at h'
  split at h'
  .exact Dn Y s U H _ _ v u Q I rx ry ⟨_,_,rfl,rfl,h'⟩
  .exact sC Y s U H _ _ v u Q I rx ry ⟨_,_,rfl,rfl,mw nofun,h'.2⟩
  .unfold HS at h';rcases h' with⟨xs,ys,ha,hb,hz,q⟩|h'
   .exact DQ Y s U H _ _ v u Q I rx ry ⟨_,_,xs,ys,rfl,rfl,ha,hb,mw nofun,q⟩
   .exact h'.elim
  .exact h'.elim
 |Sub=>
  have h':DA x y H Q:=h;unfold DA at h'
  split at h'
  .exact FI Y s U H _ _ v u Q I rx ry ⟨_,_,rfl,rfl,h'⟩
  .exact h'.elim
 |Mult=>
  have h':EW X.K x y H Q:=h;unfold EW at h'
  split at h'
  .exact Eh Y s U H _ _ v u Q I rx ry ⟨_,_,rfl,rfl,h'.1,h'.2⟩
  .rename_i k;unfold Bv at h';rcases h' with⟨xs,ha,h1,h2,hz,q⟩|h'
   .refine Dh Y s U H _ _ v u Q I rx ry ⟨_,k,xs,rfl,rfl,ha,by omega,by omega,mw ?_,q⟩;have:xs.length*k.toNat<=1000*1000:=Nat.mul_le_mul hz nofun
    omega
   .exact h'.elim
  .exact h'.elim
 |FloorDiv=>
  have h':E9 x y H Q:=h;unfold E9 at h'
  split at h'
  .exact Aq Y s U H _ _ v u Q I rx ry ⟨_,_,rfl,rfl,h'.1,h'.2⟩
  .exact h'.elim
 |Mod=>
  have h':E0 x y H Q:=h;unfold E0 at h'
  split at h'
  .exact EM Y s U H _ _ v u Q I rx ry ⟨_,_,rfl,rfl,h'.1,h'.2⟩
  .exact h'.elim
 |Pow=>
  have h':Dp x y H Q:=h;unfold Dp at h'
  split at h'
  .exact Ea Y s U H _ _ v u Q I rx ry ⟨_,_,rfl,rfl,h'.1,h'.2⟩
  .exact h'.elim
 |_=>exact(show False from h).elim
abbrev uY (f:Int->Int->Bool):R2:=λx y H Q=>match x,y with
 | .int i,.int j=>Q (.bl (f i j)) H
 |_,_=>False
@[irreducible] noncomputable def G8 (K:W.Frag) (neg:Bool):R2:=λx y H Q=>match y with
 | .ref p=>(∃ xs,(bj K H p xs\/bg K H p xs)/\aT x=true/\xs.all aT=true/\Q (.bl (if neg then !F3 x xs else F3 x xs)) H)\/False\/False
 | .str j=>False
 |_=>False
@[irreducible] noncomputable def ui (neg:Bool):R2:=λx y H Q=>match y with
 | .non=>Q (.bl (if neg then !decide (x=.non) else decide (x=.non))) H
 | .bl b=>∃ c,x=.bl c/\Q (.bl (if neg then !cond b c (!c) else cond b c (!c))) H
 | .ref b=>False
 |_=>False
abbrev p9 (K:W.Frag)(op:CmpOp):R2:=match op with
 | .Eq=>eB K false
 | .NotEq=>eB K true
 | .Lt=>uY λi j=>decide (i<j)
 | .LtE=>uY λi j=>decide (i<=j)
 | .Gt=>uY λi j=>decide (j<i)
 | .GtE=>uY λi j=>decide (j<=i)
 | .In=>G8 K false
 | .NotIn=>λ_ _ _ _=>False
 | .Is=>ui false
 | .IsNot=>ui true
def oo {f:Int->Int->Bool}{op:CmpOp}(ho:cU X (compareOp op) (BL λi j=>.bl (f i j))):cU X (compareOp op) (uY f):=by
 intro Y s U H x y v u Q I rx ry h;unfold uY at h
 split at h
 .exact ho Y s U H _ _ v u Q I rx ry ⟨_,_,rfl,rfl,h⟩
 .exact h.elim
def Ep (hu:X.A.units+200<cLine)(op:CmpOp):cU X (compareOp op) (p9 X.K op):=by
 cases op with
 |Eq=>exact ED hu
 |NotEq=>exact Dq hu
 |Lt=>exact oo IF
 |LtE=>exact oo G2
 |Gt=>exact oo HL
 |GtE=>exact oo HE
 |In=>
  intro Y s U H x y v u Q I rx ry h;have h':G8 X.K false x y H Q:=h;unfold G8 at h'
  split at h'
  .rcases h' with⟨xs,hx,f1,f2,q⟩|g|z
   .exact uT Y s U H _ _ v u Q I rx ry ⟨_,xs,rfl,hx,f1,f2,q⟩
   .exact g.elim
   .exact z.elim
  .exact h'.elim
  .exact h'.elim
 |NotIn=>exact λ_ _ _ _ _ _ _ _ _ _ _ _ h=>(show False from h).elim
 |Is=>
  intro Y s U H x y v u Q I rx ry h;have h':ui false x y H Q:=h;unfold ui at h'
  split at h'
  .exact DW Y s U H _ _ v u Q I rx ry ⟨rfl,h'⟩
  .obtain⟨c,rfl,q⟩:=h';cases rx;cases ry;rename_i b;cases b<;>cases c
   .exact wpAny_is_self rfl ⟨.bl true,H,I,rfl,q⟩
   .exact wpAny_is_other rfl (λz=>nomatch z) ⟨.bl false,H,I,rfl,q⟩
   .exact wpAny_is_other rfl (λz=>nomatch z) ⟨.bl false,H,I,rfl,q⟩
   .exact wpAny_is_self rfl ⟨.bl true,H,I,rfl,q⟩
  .exact h'.elim
  .exact h'.elim
 |IsNot=>
  intro Y s U H x y v u Q I rx ry h;have h':ui true x y H Q:=h;unfold ui at h'
  split at h'
  .exact BD Y s U H _ _ v u Q I rx ry ⟨rfl,h'⟩
  .obtain⟨c,rfl,q⟩:=h';cases rx;cases ry;rename_i b;cases b<;>cases c
   .exact wpAny_isNot_self rfl ⟨.bl false,H,I,rfl,q⟩
   .exact wpAny_isNot_other rfl (λz=>nomatch z) ⟨.bl true,H,I,rfl,q⟩
   .exact wpAny_isNot_other rfl (λz=>nomatch z) ⟨.bl true,H,I,rfl,q⟩
   .exact wpAny_isNot_self rfl ⟨.bl false,H,I,rfl,q⟩
  .exact h'.elim
  .exact h'.elim
@[irreducible] noncomputable def qK (K:W.Frag):R2:=λx y H Q=>match x with
 | .ref p=>(∃ xs i v,y=.int i/\(bj K H p xs\/bg K H p xs)/\kO xs i=some v/\Q v H)\/∃ v,Fl H p y (some v)/\Q v H
 | .str z=>False
 |_=>False
def sJ (hu:X.A.units+200<cLine):HX X (qK X.K):=by
 intro value slice Y s U H x y v u Q I rx ry h hs;unfold qK at h
 split at h
 .rcases h with⟨xs,i,w,rfl,hx,ha,q⟩|⟨w,g,q⟩
  .rcases hx with hx|hx
   .exact Bc value slice Y s U H _ _ v u Q I rx ry ⟨_,xs,i,w,rfl,rfl,hx,ha,q⟩ hs
   .exact Dj value slice Y s U H _ _ v u Q I rx ry ⟨_,xs,i,w,rfl,rfl,hx,ha,q⟩ hs
  .cases rx;exact tail_any (oY I g) PySem.F.slot_dict_getitem.lookup (vZ nofun I g ry λw' s3 I3 rw'=>⟨w,H,I3,rw',q⟩) hs
 .exact h.elim
 .exact h.elim
@[irreducible] noncomputable def gi:vP:=λo i v H Q=>match o with
 | .ref p=>(∃ xs k j,i=.int k/\H p=some (.lst xs)/\vA xs.length k=some j/\Q (upd H p (.lst (xs.set j v))))\/∃ H4,Ih H p i v H4/\Q H4
 |_=>False
def ud (hu:X.A.units+200<cLine):Al X gi:=by
 intro Y s U H o i v ov iv u Q I ro ri rv h;unfold gi at h
 split at h
 .rcases h with⟨xs,k,j,rfl,hp,hj,q⟩|⟨H4,g,q⟩
  .exact set_list Y s U H _ _ v ov iv u Q I ro ri rv ⟨_,xs,k,j,rfl,rfl,hp,hj,q⟩
  .cases ro;exact vW nofun I g ri rv λs4 I4=>⟨H4,I4,q⟩
 .exact h.elim
@[irreducible] noncomputable def C9 (K:W.Frag):V->Option Int->Option Int->Hp->VK->Prop:=λx lo hi H Q=>match x with
 | .ref a=>(∃ xs,bj K H a xs/\∀ p,H p=none->Q (.ref p) (upd H p (.lst (jw xs lo hi))))\/False
 | .str z=>False
 |_=>False
def E6:IW X (C9 X.K):=by
 intro Y s U H x v vl vu lo hi sl Q I rx hs pl pu h;unfold C9 at h
 split at h
 .rcases h with⟨xs,hx,q⟩|h
  .exact AH Y s U H _ v vl vu lo hi sl Q I rx hs pl pu ⟨_,xs,rfl,hx,q⟩
  .exact h.elim
 .exact h.elim
 .exact h.elim
end
end L2
namespace L3
open PySem L2
set_option genSizeOf false
inductive Bf where
 |len|list|tuple|int|str|min|max|abs|all|any|dict|sum
 deriving DecidableEq
inductive Lm where
 |append|extend|insert|pop|clear|reverse|count
 deriving DecidableEq
inductive Cl where
 |own (c:Nat)|ty (n:String)
mutual
inductive Ex where
 |v (i:Nat)|int (i:Int)|bl (b:Bool)|non|str (x:Str)|gl (x:Str)
 |bin (op:Operator) (a b:Ex)|neg (a:Ex)|not (a:Ex)|and (a b:Ex)|or (a b:Ex)
 |cmp (op:CmpOp) (a b:Ex)|cmp2 (o1 o2:CmpOp) (a b c:Ex)|cmp3 (o1 o2 o3:CmpOp) (a b c d:Ex)
 |ife (c:Tx) (a b:Ex)|tup (es:fU)|lst (es:fU)|ix (a i:Ex)|sl (a:Ex) (lo hi:IZ)
 |fld (a:Ex) (f:Str)|call (f:Nat) (es:fU)|meth (a:Ex) (m:Str) (es:fU)|lm (m:Lm) (a:Ex) (es:fU)|make (c:Nat) (es:fU)|bini (es:fU)|cini (c:Nat) (es:fU)
 |bf (b:Bf) (es:fU)|isi (a:Ex) (c:Cl)|lc (elt:Ex) (sel:List Nat) (it:CY)|lci (elt:Ex) (c:Tx) (sel:List Nat) (it:CY)|lct (elt:Ex) (n:Nat) (sel:List Nat) (it:CY)|lcu (elt:Ex) (c:Tx) (n:Nat) (sel:List Nat) (it:CY)|dnew|up (a:Ex)|dzip (a b:Ex)|isiT (a:Ex) (cs:List Nat)|vals (tp:Bool) (a:Ex)|mk0 (c:Nat)|disp (ks:List Str) (es:fU)|lix (a b:Ex)|rev (a b:Ex)|dget (a k d:Ex)
inductive Tx where
 |not (a:Tx)|and (a b:Tx)|or (a b:Tx)|cmp (op:CmpOp) (a b:Ex)|cmp2 (o1 o2:CmpOp) (a b c:Ex)|val (e:Ex)
inductive fU where
 |nil|cons (e:Ex) (es:fU)
inductive IZ where
 |no|yes (e:Ex)
inductive CY where
 |rng1 (a:Ex)|rng2 (a b:Ex)|rng3 (a b c:Ex)|enm (a:Ex)|enf (a:Ex)|seq (a:Ex)|zip (a b:Ex)|zip3 (a b c:Ex)
end
inductive IT where
 |nm (i:Nat)|tp (is:List Nat)|nt (i:Nat) (is:List Nat)
mutual
inductive Sx where
 |asg (i:Nat) (e:Ex)|asgT (is:List Nat) (e:Ex)|par (is:List Nat) (es:fU)|sub (o i v:Ex)|fld (o:Ex) (f:Str) (v:Ex)
 |aug (i:Nat) (op:Operator) (e:Ex)|augS (o i:Ex) (op:Operator) (e:Ex)
 |ret (e:Ex)|retN|pass|brk|cont|expr (e:Ex)
 |ife (c:Tx) (a b:lK)|whl (c:Tx) (b:lK)|for (t:IT) (it:CY) (b:lK)|rais (e:Ex)|tryx (b:lK) (hs:zV)
inductive lK where
 |nil|cons (s:Sx) (r:lK)
inductive zV where
 |nil|cons (c:Nat) (i:Nat) (b:lK) (hs:zV)
end
structure au where
 ps:List Str
 N:List Str
 dfl:List V
 body:lK
/-- what of the text never changes. gfn,gcl:the global names of defs and classes,by number;gbl:built-in names that are not shadowed;gbi:classes of exceptions whose __init__ is the built-in one;na:class and name that no class of it has;
  me:class,name,def;ini:class,its __init__;oc,xc:plain classes,classes of exceptions;sub,subT:isinstance -/
structure Tab where
 fns:List au
 gfn:List (Str×Nat)
 gcl:List (Str×Nat)
 gbl:List Str
 gbi:List Str
 na:List (Nat×Str)
 me:List ((Nat×Str)×Nat)
 ini:List (Nat×Nat)
 ini0:List Nat
 inip:List Nat
 oc:List Nat
 xc:List Nat
 sub:List ((Nat×Nat)×Bool)
 subT:List ((Nat×String)×Bool)
 subB:List ((String×String)×Bool)
 subO:List ((String×Nat)×Bool)
 cin:List (Nat×Nat):=[]
structure Rt where
 K:W.Frag
 fad:Nat->Addr
 cad:Nat->Addr
 gl:Str->Option V
structure Gx where
 T:Tab
 R:Rt
 Ψ:Nat->Sp
 cm:Bool
@[irreducible] noncomputable def jo (c:Bool) (A B:Prop):Prop:=match c with
 |true=>A
 |false=>B
def dv (c:Bool)(A B:Prop):jo c A B=(if c=true then A else B):=by unfold jo;cases c<;>rfl
abbrev Ed (K:W.Frag)(x:V)(H:Hp)(Q:Bool->Hp->Prop):Prop:=match x with
 | .bl k=>Q k H
 |y=>∃ k,Ab K y H k/\Q k H
abbrev tyName:V->Hp->Option String
 | .non,_=>some "NoneType"
 | .bl _,_=>some "bool"
 | .int _,_=>some "int"
 | .str _,_=>some "str"
 | .ref a,H=>match H a with
  |some (.lst _)=>some "list"
  |some (.tup _)=>some "tuple"
  |some (.dK _)=>some "dict"
  |_=>none
 |_,_=>none
@[irreducible] noncomputable def rY (G:Gx) (b:Bf) (vs:List V) (H:Hp) (Q:VK):Prop:=match b with
 | .len=>∃ x n,vs=[x]/\Ib G.R.K x H n/\Q (.int n) H
 | .list=>(∃ p ys,vs=[.ref p]/\(bj G.R.K H p ys\/bg G.R.K H p ys)/\∀ l,H l=none->Q (.ref l) (upd H l (.lst ys)))\/(G.cm=true/\∃ p kvs,vs=[.ref p]/\H p=some (.dK kvs)/\∀ l,H l=none->Q (.ref l) (upd H l (.lst (kvs.map (λkv=>kV kv.1)))))
 | .tuple=>∃ p ys,vs=[.ref p]/\((bj G.R.K H p ys/\∀ l,H l=none->Q (.ref l) (upd H l (.tup ys)))\/(bg G.R.K H p ys/\Q (.ref p) H))
 | .int=>(∃ i,vs=[.int i]/\Q (.int i) H)\/∃ k,vs=[.bl k]/\Q (.int (if k then 1 else 0)) H
 | .str=>(∃ i,vs=[.int i]/\i.natAbs.log2<1920/\Q (.str (toString i)) H)\/∃ z,vs=[.str z]/\Q (.str z) H
 | .min=>G.cm=true/\((∃ i j,vs=[.int i,.int j]/\Q (.int (if j<i then j else i)) H)\/False)
 | .max=>False
 | .abs=>False
 | .all=>False
 | .any=>False
 | .dict=>∃ p kvs,vs=[.ref p]/\H p=some (.dK kvs)/\∀ l,H l=none->Q (.ref l) (upd H l (.dK kvs))
 | .sum=>False
@[irreducible] noncomputable def HW (m:Lm) (p:Addr) (xs:List V) (vs:List V) (H:Hp) (Q:VK):Prop:=match m with
 | .append=>∃ y,vs=[y]/\xs.length<=10000/\Q .non (upd H p (.lst (xs++[y])))
 | .extend=>∃ b zs,vs=[.ref b]/\H b=some (.lst zs)/\xs.length+zs.length<=10000/\Q .non (upd H p (.lst (xs++zs)))
 | .insert=>False
 | .pop=>False
 | .clear=>False
 | .reverse=>False
 | .count=>False
abbrev dflt (G:Gx)(f n:Nat):List V:=match G.T.fns[f]? with
 |some d=>d.dfl.drop (n+d.dfl.length-d.ps.length)
 |none=>[]
abbrev fU.len:fU->Nat
 | .nil=>0
 | .cons _ es=>es.len+1
abbrev wu (G:Gx)(H:Hp)(a:Addr)(i:Nat):Prop:=(G.T.oc.contains i=true/\∃ dx fs,H a=some (.ins (G.R.cad i) dx fs))\/(G.T.xc.contains i=true/\∃ dx fs fr,H a=some (.exc (G.R.cad i) dx fs fr))
@[irreducible] noncomputable def lq (G:Gx) (c:Cl) (x:V) (H:Hp) (Q:VK):Prop:=match c with
 | .ty n=>(∃ t b,tyName x H=some t/\G.T.subB.lookup (t,n)=some b/\Q (.bl b) H)\/∃ a i b,x=.ref a/\wu G H a i/\G.T.subT.lookup (i,n)=some b/\Q (.bl b) H
 | .own j=>(∃ t b,tyName x H=some t/\G.T.subO.lookup (t,j)=some b/\Q (.bl b) H)\/∃ a i b,x=.ref a/\wu G H a i/\G.T.sub.lookup (i,j)=some b/\Q (.bl b) H
@[irreducible] noncomputable def rV (G:Gx) (f:Str) (x:V) (H:Hp) (Q:VK):Prop:=∃ a i fs v,x=.ref a/\((G.T.oc.contains i=true/\∃ dx,H a=some (.ins (G.R.cad i) dx fs))\/(G.T.xc.contains i=true/\∃ dx fr,H a=some (.exc (G.R.cad i) (some dx) fs fr)))/\
 G.T.na.contains (i,f)=true/\fs.lookup f=some v/\Q v H
@[irreducible] noncomputable def Bw (G:Gx) (f:Str) (x y:V) (H:Hp) (Q:Hp->Prop):Prop:=∃ a i,x=.ref a/\G.T.na.contains (i,f)=true/\
 ((∃ dx fs,G.T.oc.contains i=true/\H a=some (.ins (G.R.cad i) dx fs)/\fs.length<1000/\Q (upd H a (.ins (G.R.cad i) dx (cF f y fs))))\/
  (∃ d fs fr,G.T.xc.contains i=true/\H a=some (.exc (G.R.cad i) (some d) fs fr)/\fs.length<1000/\Q (upd H a (.exc (G.R.cad i) (some d) (cF f y fs) fr)))\/
  (∃ fr,G.T.xc.contains i=true/\H a=some (.exc (G.R.cad i) none [] fr)/\∀ d,H d=none->Q (upd (upd H d (.own a)) a (.exc (G.R.cad i) (some d) [(f,y)] fr))))
abbrev Ja (op:Operator)(x y:V)(H:Hp)(Q:VK):Prop:=match op,x,y with
 | .Add,.int i,.int j=>Q (.int (i+j)) H
 | .Sub,.int i,.int j=>Q (.int (i-j)) H
 |_,_,_=>False
@[irreducible] noncomputable def xP (K:W.Frag) (x y:V) (H:Hp) (Q:VK):Prop:=match x,y with
 | .ref p,.int i=>∃ xs v,bj K H p xs/\0<=i/\xs[i.toNat]? =some v/\Q v H
 |_,_=>False
abbrev vD (U:St):List Nat->List V->St
 |i::is,x::xs=>vD (U.set i (some x)) is xs
 |_,_=>U
@[irreducible] noncomputable def BR (xs:List V) (H:Hp) (Q:VK):Prop:=xs.length<=10000/\∀ p,H p=none->Q (.ref p) (upd H p (.lst xs))
@[irreducible] noncomputable def mR (xs:List V) (H:Hp) (Q:VK):Prop:=xs.length<=10000/\∀ p,H p=none->Q (.ref p) (upd H p (.tup xs))
@[irreducible] noncomputable def BP (l:Addr) (H:Hp) (R:It->Hp->Prop):Prop:=(∃ xs,H l=some (.lst xs))/\R (GV l) H
@[irreducible] noncomputable def sj (K:W.Frag) (p:Addr) (H:Hp) (R:It->Hp->Prop):Prop:=((∃ xs,bj K H p xs)/\R (Cp K p) H)\/((∃ xs,bg K H p xs)/\R (Gk K p) H)
@[irreducible] noncomputable def A8 (K:W.Frag) (x y:V) (H:Hp) (R:It->Hp->Prop):Prop:=G0 K x y H R
@[irreducible] noncomputable def pW (tp:Bool) (x:V) (H:Hp) (Q:VK):Prop:=C5 tp x H Q
@[irreducible] noncomputable def wZ (C:Addr) (H:Hp) (Q:VK):Prop:=∀ x dx,H x=none->H dx=none->dx≠x->Q (.ref x) (upd (upd H dx (.own x)) x (.ins C dx []))
@[irreducible] noncomputable def GX (K:W.Frag) (x y:V) (H:Hp) (Q:VK):Prop:=Kz K x y H Q
@[irreducible] noncomputable def Ai (p:Addr) (y w:V) (H:Hp) (Q:VK):Prop:=∃ kvs k,H p=some (.dK kvs)/\y=kV k/\Q ((fm kvs k).getD w) H
@[irreducible] noncomputable def w4 (K:W.Frag) (p:Addr) (y:V) (H:Hp) (Q:VK):Prop:=∃ xs,∃ (e:V->Bool) (j:Nat) (x:V),H p=some (.lst xs)/\xs.length<=10000/\(∀ x ∈ xs,∃ n,n<=100/\dO K H n x y (e x))/\xs[j]? =some x/\e x=true/\(∀ (m:Nat) x,m<j->xs[m]? =some x->e x=false)/\Q (.int (j:Int)) H
@[irreducible] noncomputable def wa (te:TE) (J:It) (σ₀:St) (H1:Hp) (Q:VK):Prop:=LC te J σ₀ H1 Q
def xW: @wa= @LC:=by
 funext te J U H Q
 unfold wa
 rfl
@[irreducible] noncomputable def Ju (tc:TT) (te:TE) (J:It) (σ₀:St) (H1:Hp) (Q:VK):Prop:=LCg (gJ 0) tc te J σ₀ H1 Q
def Fx: @Ju= @LCg (gJ 0):=by
 funext tc te J U H Q
 unfold Ju
 rfl
abbrev gl (is:List Nat):AS:=λvs U H Q=>vs.length=is.length/\Q (vD U is vs) H
@[irreducible] noncomputable def LCt (K:W.Frag) (n:Nat) (te:TE) (J:It) (σ₀:St) (H1:Hp) (Q:VK):Prop:=LCg (Ce K n (gl (List.range n))) yes te J σ₀ H1 Q
def xT {K:W.Frag}{n:Nat}:LCt K n=LCg (Ce K n (gl (List.range n))) yes:=by
 funext te J U H Q
 unfold LCt
 rfl
abbrev DL:List Str->List V->List (Key×V)
 |k::ks,x::xs=>(.inr k,x)::DL ks xs
 |_,_=>[]
@[irreducible] noncomputable def lR (ks:List Str) (p:Addr) (xs:List V) (H:Hp) (Q:VK):Prop:=H p=some (.dK [])/\Q (.ref p) (upd H p (.dK (fY [] (DL ks xs))))
mutual
noncomputable def wE (G:Gx):Ex->St->Hp->VK->XK->Prop
 | .v i,U,H,Q,_=>match U[i]? with
  |some (some x)=>Q x H
  |_=>False
 | .int i,_,H,Q,_=>Q (.int i) H
 | .bl b,_,H,Q,_=>Q (.bl b) H
 | .non,_,H,Q,_=>Q .non H
 | .str x,_,H,Q,_=>Q (.str x) H
 | .gl x,_,H,Q,_=>match G.R.gl x with
  |some v=>Q v H
  |none=>False
 | .bin op a b,U,H,Q,E=>wE G a U H (λx H1=>wE G b U H1 (λy H2=>EG G.R.K op x y H2 Q) E) E
 | .neg a,U,H,Q,E=>wE G a U H (λx H1=>match x with| .int i=>Q (.int (-i)) H1|_=>False) E
 | .not a,U,H,Q,E=>wE G a U H (λx H1=>match x with| .bl c=>Q (.bl (!c)) H1|_=>False) E
 | .and a b,U,H,Q,E=>wE G a U H (λx H1=>match x with| .bl c=>jo c (wE G b U H1 Q E) (Q (.bl false) H1)|_=>False) E
 | .or a b,U,H,Q,E=>wE G a U H (λx H1=>match x with| .bl c=>jo c (Q (.bl true) H1) (wE G b U H1 Q E)|_=>False) E
 | .cmp op a b,U,H,Q,E=>wE G a U H (λx H1=>wE G b U H1 (λy H2=>p9 G.R.K op x y H2 Q) E) E
 | .cmp2 o1 o2 a b c,U,H,Q,E=>wE G a U H (λx H1=>wE G b U H1 (λy H2=>p9 G.R.K o1 x y H2 λz H3=>match z with| .bl k=>jo k (wE G c U H3 (λw H4=>p9 G.R.K o2 y w H4 Q) E) (Q (.bl false) H3)|_=>False) E) E
 | .cmp3 o1 o2 o3 a b c d,U,H,Q,E=>False
 | .ife c a b,U,H,Q,E=>wT G c U H (λk H1=>jo k (wE G a U H1 Q E) (wE G b U H1 Q E)) E
 | .tup es,U,H,Q,E=>wEs G es U H (λxs H1=>mR xs H1 Q) E
 | .lst es,U,H,Q,E=>wEs G es U H (λxs H1=>BR xs H1 Q) E
 | .ix a i,U,H,Q,E=>wE G a U H (λx H1=>wE G i U H1 (λy H2=>qK G.R.K x y H2 Q) E) E
 | .sl a lo hi,U,H,Q,E=>wE G a U H (λx H1=>wO G lo U H1 (λl H2=>wO G hi U H2 (λu H3=>C9 G.R.K x l u H3 Q) E) E) E
 | .fld a f,U,H,Q,E=>wE G a U H (λx H1=>rV G f x H1 Q) E
 | .call f es,U,H,Q,E=>G.cm=true/\wEs G es U H (λvs H1=>G.Ψ f (vs++dflt G f es.len) H1 Q E) E
 | .meth a m es,U,H,Q,E=>G.cm=true/\wE G a U H (λx H1=>∃ p i dx fs f,x=.ref p/\H1 p=some (.ins (G.R.cad i) dx fs)/\fs.lookup m=none/\G.T.me.lookup (i,m)=some f/\
   wEs G es U H1 (λvs H2=>G.Ψ f (x::(vs++dflt G f (es.len+1))) H2 Q E) E) E
 | .lm m a es,U,H,Q,E=>wE G a U H (λx H1=>∃ p xs0,x=.ref p/\H1 p=some (.lst xs0)/\wEs G es U H1 (λvs H2=>∃ xs,H2 p=some (.lst xs)/\HW m p xs vs H2 Q) E) E
 | .make c es,U,H,Q,E=>G.cm=true/\match G.T.ini.lookup c with
  |none=>G.T.ini0.contains c=true/\wEs G es U H (λvs H1=>vs.length=1/\∀ x,H1 x=none->Q (.ref x) (upd H1 x (.exc (G.R.cad c) none [] true))) E
  |some f=>if G.T.xc.contains c=true then wEs G es U H (λvs H1=>vs.length<=1000/\∀ x,H1 x=none->G.Ψ f (.ref x::(vs++dflt G f (es.len+1))) (upd H1 x (.exc (G.R.cad c) none [] true)) (λv H2=>v=.non/\Q (.ref x) H2) E) E
   else wEs G es U H (λvs H1=>∀ x dx,H1 x=none->H1 dx=none->dx≠x->G.Ψ f (.ref x::(vs++dflt G f (es.len+1))) (upd (upd H1 dx (.own x)) x (.ins (G.R.cad c) dx [])) (λv H2=>v=.non/\Q (.ref x) H2) E) E
 | .bini es,U,H,Q,E=>wEs G es U H (λvs H1=>∃ a i dx fs fr v,vs=[.ref a,v]/\H1 a=some (.exc (G.R.cad i) dx fs fr)/\G.T.xc.contains i=true/\Q .non H1) E
 | .cini c es,U,H,Q,E=>G.cm=true/\match G.T.cin.lookup c with
  |some f=>wEs G es U H (λvs H1=>G.Ψ f (vs++dflt G f es.len) H1 Q E) E
  |none=>False
 | .bf b es,U,H,Q,E=>wEs G es U H (λvs H1=>rY G b vs H1 Q) E
 | .isi a c,U,H,Q,E=>wE G a U H (λx H1=>lq G c x H1 Q) E
 | .lc elt sel it,U,H,Q,E=>G.cm=true/\wI G it U H (λJ H1=>wa (λσ' H' Q'=>wE G elt σ' H' Q' (λ_ _=>False)) J (none::gu U sel) H1 Q) E
 | .lci elt c sel it,U,H,Q,E=>False
 | .lct elt n sel it,U,H,Q,E=>G.cm=true/\wI G it U H (λJ H1=>LCt G.R.K n (λσ' H' Q'=>wE G elt σ' H' Q' (λ_ _=>False)) J (sn n none++gu U sel) H1 Q) E
 | .lcu elt c n sel it,U,H,Q,E=>False
 | .dnew,_,H,Q,_=>False
 | .up a,U,H,Q,E=>False
 | .isiT a cs,U,H,Q,E=>False
 | .mk0 c,_,H,Q,_=>wZ (G.R.cad c) H Q
 | .disp ks es,U,H,Q,E=>∀ p,H p=none->wEs G es U (upd H p (.dK [])) (λxs H2=>lR ks p xs H2 Q) E
 | .dget a k d,U,H,Q,E=>wE G a U H (λx H1=>∃ p kvs0,x=.ref p/\H1 p=some (.dK kvs0)/\wE G k U H1 (λy H2=>wE G d U H2 (λw H3=>Ai p y w H3 Q) E) E) E
 | .rev a b,U,H,Q,E=>False
 | .lix a b,U,H,Q,E=>wE G a U H (λx H1=>∃ p xs0,x=.ref p/\H1 p=some (.lst xs0)/\wE G b U H1 (λy H2=>w4 G.R.K p y H2 Q) E) E
 | .vals tp a,U,H,Q,E=>G.cm=true/\wE G a U H (λx H1=>pW tp x H1 Q) E
 | .dzip a b,U,H,Q,E=>G.cm=true/\wE G a U H (λx H1=>wE G b U H1 (λy H2=>GX G.R.K x y H2 Q) E) E
noncomputable def wT (G:Gx):Tx->St->Hp->(Bool->Hp->Prop)->XK->Prop
 | .not a,U,H,Q,E=>wT G a U H (λc H1=>Q (!c) H1) E
 | .and a b,U,H,Q,E=>wT G a U H (λc H1=>jo c (wT G b U H1 Q E) (Q false H1)) E
 | .or a b,U,H,Q,E=>wT G a U H (λc H1=>jo c (Q true H1) (wT G b U H1 Q E)) E
 | .cmp op a b,U,H,Q,E=>wE G a U H (λx H1=>wE G b U H1 (λy H2=>p9 G.R.K op x y H2 λz H3=>match z with| .bl k=>Q k H3|_=>False) E) E
 | .cmp2 o1 o2 a b c,U,H,Q,E=>wE G a U H (λx H1=>wE G b U H1 (λy H2=>p9 G.R.K o1 x y H2 λz H3=>match z with| .bl k=>jo k (wE G c U H3 (λw H4=>p9 G.R.K o2 y w H4 λz H5=>match z with| .bl k=>Q k H5|_=>False) E) (Q false H3)|_=>False) E) E
 | .val e,U,H,Q,E=>wE G e U H (λx H1=>Ed G.R.K x H1 Q) E
noncomputable def wEs (G:Gx):fU->St->Hp->(List V->Hp->Prop)->XK->Prop
 | .nil,_,H,Q,_=>Q [] H
 | .cons e es,U,H,Q,E=>wE G e U H (λx H1=>wEs G es U H1 (λxs H2=>Q (x::xs) H2) E) E
noncomputable def wO (G:Gx):IZ->St->Hp->(Option Int->Hp->Prop)->XK->Prop
 | .no,_,H,Q,_=>Q none H
 | .yes e,U,H,Q,E=>wE G e U H (λx H1=>match x with| .int i=>Q (some i) H1|_=>False) E
noncomputable def wI (G:Gx):CY->St->Hp->(It->Hp->Prop)->XK->Prop
 | .rng1 a,U,H,R,E=>wE G a U H (λx H1=>match x with| .int j=>-(2 ^ 62)<=j/\j<2 ^ 62/\R (C0 0 j.toNat) H1|_=>False) E
 | .rng2 a b,U,H,R,E=>wE G a U H (λx H1=>wE G b U H1 (λy H2=>match x,y with| .int i,.int j=>(-(2 ^ 62)<=i/\i<2 ^ 62/\ -(2 ^ 62)<=j/\j<2 ^ 62)/\R (C0 i (j-i).toNat) H2|_,_=>False) E) E
 | .rng3 a b c,U,H,R,E=>False
 | .enm a,U,H,R,E=>wE G a U H (λx H1=>match x with| .ref l=>BP l H1 R|_=>False) E
 | .enf a,U,H,R,E=>False
 | .seq a,U,H,R,E=>wE G a U H (λx H1=>match x with| .ref p=>sj G.R.K p H1 R|_=>False) E
 | .zip a b,U,H,R,E=>wE G a U H (λx H1=>wE G b U H1 (λy H2=>A8 G.R.K x y H2 R) E) E
 | .zip3 a b c,U,H,R,E=>False
end
abbrev Kn (D:Ends)(f:St->Hp->Prop):Ends:={ D with nx:=f }
abbrev CV (D:Ends)(N:St->Hp->Prop):Ends:={ D with nx:=N,ct:=N,bk:=D.nx }
abbrev Lr (D:Ends)(i:Nat):Ends:={ nx:=λσ' H'=>D.nx (σ'.set i none) H',rt:=D.rt,bk:=λσ' H'=>D.bk (σ'.set i none) H',ct:=λσ' H'=>D.ct (σ'.set i none) H' }
abbrev wG (U:St)(t:IT)(K:W.Frag)(x:V)(H:Hp)(Q:St->Prop):Prop:=match t with
 | .nm i=>Q (U.set i (some x))
 | .tp is=>∃ a xs,x=.ref a/\(bg K H a xs\/bj K H a xs)/\xs.length=is.length/\Q (vD U is xs)
 | .nt i is=>∃ a y b ys,x=.ref a/\bg K H a [y,.ref b]/\bg K H b ys/\ys.length=is.length/\Q (vD (U.set i (some y)) is ys)
@[irreducible] noncomputable def lz (J:It) (D:Ends) (F:(St->Hp->Prop)->V->St->Hp->Prop) (U:St) (H1:Hp):Prop:=∃ W:Nat->Nat->St->Hp->Prop,(∃ m,W 0 m U H1)/\∀ i m U H,W i m U H->
 (J.stop i H/\D.nx U H)\/(J.go i H/\∃ N:St->Hp->Prop,(∀ σ' H',N σ' H'->∃ m',m'<m/\W (i+1) m' σ' H')/\∀ x H',J.yld i H x H'->F N x U H')
mutual
noncomputable def wS:Sx->Gx->Ends->(St->XK)->St->Hp->Prop
 | .asg i e,G,D,E,U,H=>wE G e U H (λx H1=>D.nx (U.set i (some x)) H1) (E U)
 | .asgT is e,G,D,E,U,H=>G.cm=true/\wE G e U H (λx H1=>wG U (.tp is) G.R.K x H1 λσ1=>D.nx σ1 H1) (E U)
 | .par is es,G,D,E,U,H=>G.cm=true/\wEs G es U H (λxs H1=>xs.length=is.length/\D.nx (vD U is xs) H1) (E U)
 | .sub o i v,G,D,E,U,H=>wE G v U H (λy H1=>wE G o U H1 (λov H2=>wE G i U H2 (λiv H3=>gi ov iv y H3 (λH4=>D.nx U H4)) (E U)) (E U)) (E U)
 | .fld o f v,G,D,E,U,H=>wE G v U H (λy H1=>wE G o U H1 (λx H2=>Bw G f x y H2 (λH3=>D.nx U H3)) (E U)) (E U)
 | .aug i op e,G,D,E,U,H=>(match U[i]? with|some (some x)=>wE G e U H (λy H1=>Ja op x y H1 λz H2=>D.nx (U.set i (some z)) H2) (E U)|_=>False)
 | .augS o i op e,G,D,E,U,H=>wE G o U H (λov H1=>wE G i U H1 (λiv H2=>xP G.R.K ov iv H2 (λx H3=>wE G e U H3 (λy H4=>Ja op x y H4 (λz H5=>gi ov iv z H5 (λH6=>D.nx U H6))) (E U))) (E U)) (E U)
 | .ret e,G,D,E,U,H=>wE G e U H D.rt (E U)
 | .retN,_,D,_,_,H=>False
 | .pass,_,D,_,U,H=>False
 | .brk,_,D,_,U,H=>False
 | .cont,_,D,_,U,H=>False
 | .expr e,G,D,E,U,H=>wE G e U H (λ_ H1=>D.nx U H1) (E U)
 | .ife c a b,G,D,E,U,H=>wT G c U H (λk H1=>jo k (wB a G D E U H1) (wB b G D E U H1)) (E U)
 | .whl c b,G,D,E,U,H=>∃ W:Nat->St->Hp->Prop,(∃ m,W m U H)/\∀ m U H,W m U H->wT G c U H (λk H1=>jo k (∃ N:St->Hp->Prop,(∀ σ' H',N σ' H'->∃ m',m'<m/\W m' σ' H')/\wB b G (CV D N) E U H1) (D.nx U H1)) (E U)
 | .for t it b,G,D,E,U,H=>G.cm=true/\wI G it U H (λJ H1=>lz J D (λN x U H'=>wG U t G.R.K x H' λσ2=>wB b G (CV D N) E σ2 H') U H1) (E U)
 | .rais e,G,_,E,U,H=>G.cm=true/\wE G e U H (λv H1=>∃ a i dx fs,v=.ref a/\H1 a=some (.exc (G.R.cad i) dx fs true)/\G.T.xc.contains i=true/\E U a (upd H1 a (.exc (G.R.cad i) dx fs false))) (E U)
 | .tryx b hs,G,D,_,U,H=>G.cm=true/\wB b G D (λσ' e H'=>wH hs G D σ' e H') U H
noncomputable def wB:lK->Gx->Ends->(St->XK)->St->Hp->Prop
 | .nil,_,D,_,U,H=>D.nx U H
 | .cons s r,G,D,E,U,H=>wS s G (Kn D λσ1 H1=>wB r G D E σ1 H1) E U H
noncomputable def wH:zV->Gx->Ends->St->Addr->Hp->Prop
 | .nil,_,_,_,_,_=>False
 | .cons c i b hs,G,D,U,e,H=>∃ j dx fs k,H e=some (.exc (G.R.cad j) dx fs false)/\G.T.xc.contains j=true/\G.T.sub.lookup (j,c)=some k/\
   jo k (wB b { G with cm:=false } (Lr D i) (λ_ _ _=>False) (U.set i (some (.ref e))) H)
    (wH hs G D U e H)
end
end L3
namespace L3
open PySem PySem.Spec L2 PyProof.Rows
structure Sn where
 T:Tab
 sc:Scope
 N:List Str
abbrev Sn.ma (S:Sn)(x:Str):Bool:=decide (S.sc.names.lookup x=some .globalImplicit)&& !(x ==("__debug__":Str))
abbrev Sn.D6 (S:Sn)(x:Str):Bool:=(decide (S.sc.names.lookup x=some .local)||decide (S.sc.names.lookup x=some .cell)||decide (S.sc.names.lookup x=some .free))&& !(x ==("__debug__":Str))&& !(x ==("__classdict__":Str))
abbrev Sn.loc (S:Sn)(i:Nat)(x:Str):Bool:=decide (S.N[i]? =some x)&&(decide (S.sc.names.lookup x=some .local)||decide (S.sc.names.lookup x=some .cell))
abbrev sL:Expr->Bool
 | .ListComp .. | .SetComp .. | .DictComp ..=>false
 |_=>true
abbrev cZ:Expr->Bool
 | .Set ..=>false
 |_=>true
abbrev fh:Expr->Bool
 | .Slice ..=>false
 |_=>true
abbrev cK:Expr->Bool
 | .Call (.Name _ _) [] [] _=>false
 |_=>true
abbrev plainT:Expr->Bool
 | .UnaryOp .Not _ _| .BoolOp .. | .IfExp .. | .Compare ..=>false
 |_=>true
abbrev xp:Bf->String
 | .len=>"len"| .list=>"list"| .tuple=>"tuple"| .int=>"int"| .str=>"str"| .min=>"min"| .max=>"max"| .abs=>"abs"| .all=>"all"| .any=>"any"| .dict=>"dict"| .sum=>"sum"
abbrev yI:Lm->String
 | .append=>"append"| .extend=>"extend"| .insert=>"insert"| .pop=>"pop"| .clear=>"clear"| .reverse=>"reverse"| .count=>"count"
abbrev jR:List String:=["int","bool","str","list","tuple","dict","ValueError"]
abbrev B7 (S:Sn):Cl->Expr->Bool
 | .own c,.Name x _=>S.ma x&&decide (S.T.gcl.lookup x=some c)
 | .ty n,.Name x _=>S.ma x&&decide (x=(n:Str))&&S.T.gbl.contains x&&jR.contains n
 |_,_=>false
abbrev dE (outer inner:Scope):Scope:=
 { inner with names:=inner.names.map λ(n,k)=>if(k ==.free&&outer.kind ==.function&&outer.names.lookup n ==some .cell) then(n,.cell) else(n,k) }
abbrev fW (S:Sn)(scope:Scope)(xs:List Str)(sel:List Nat):Bool:=
 decide (scope.kind=.function)&&decide (S.sc.kind=.function)&&scope.names.all (λy=>y.2 != .cell&&(y.2 != .local||decide (scope.names.lookup y.1=some .local))&&(y.2 != .free||(decide (S.sc.names.lookup y.1=some .cell))))&&xs.all (λx=>decide (scope.names.lookup x=some .local))&&
 sel.all (λi=>match S.N[i]? with|some y=>decide (S.sc.names.lookup y=some .cell)&&decide ((dE S.sc scope).names.lookup y=some .cell)|none=>false)&&decide ((xs++sel.filterMap λi=>S.N[i]?).Nodup)
abbrev Br:List Expr->List Str
 | .Name x _::r=>x::Br r
 |_=>[]
abbrev v9 (S:Sn):List Nat->List Expr->Bool
 | [],[]=>true
 |i::is,.Name x _::r=>decide (S.N[i]? =some x)&&decide (S.sc.names.lookup x=some .local)&&v9 S is r
 |_,_=>false
abbrev nZ:List Str->List (Option Expr)->Bool
 | [],[]=>true
 |k::ks,some (.Constant (.str x) _ _)::r=>decide (k=x)&&nZ ks r
 |_,_=>false
mutual
noncomputable def mE (S:Sn):Ex->Expr->Bool
 | .v i,e=>match e with| .Name x _=>decide (S.N[i]? =some x)&&S.D6 x|_=>false
 | .int i,e=>match e with| .Constant y1 _ _=>(match y1 with| .int j=>decide (i=j)|_=>false)|_=>false
 | .bl i,e=>match e with| .Constant y1 _ _=>(match y1 with| .bool j=>decide (i=j)|_=>false)|_=>false
 | .non,e=>match e with| .Constant y1 _ _=>(match y1 with| .none=>true|_=>false)|_=>false
 | .str i,e=>match e with| .Constant y1 _ _=>(match y1 with| .str j=>decide (i=j)|_=>false)|_=>false
 | .gl x,e=>match e with| .Name y _=>decide (x=y)&&S.ma y|_=>false
 | .bin op a b,e=>match e with| .BinOp a' op' b' _=>decide (op=op')&&mE S a a'&&mE S b b'|_=>false
 | .neg a,e=>match e with| .UnaryOp y1 a' _=>(match y1 with| .USub=>mE S a a'|_=>false)|_=>false
 | .not a,e=>match e with| .UnaryOp y1 a' _=>(match y1 with| .Not=>mE S a a'|_=>false)|_=>false
 | .and a b,e=>match e with| .BoolOp y1 y2 p=>(match y1 with| .And=>(match y2 with|a'::b'::r=>mE S a a'&&mE S b (match r with| []=>b'|_=>.BoolOp .And (b'::r) p)|_=>false)|_=>false)|_=>false
 | .or a b,e=>match e with| .BoolOp y1 y2 p=>(match y1 with| .Or=>(match y2 with|a'::b'::r=>mE S a a'&&mE S b (match r with| []=>b'|_=>.BoolOp .Or (b'::r) p)|_=>false)|_=>false)|_=>false
 | .cmp op a b,e=>match e with| .Compare a' y1 y2 _=>(match y1 with| [op']=>(match y2 with| [b']=>decide (op=op')&&mE S a a'&&mE S b b'&&cZ b'|_=>false)|_=>false)|_=>false
 | .cmp2 o1 o2 a b c,e=>match e with| .Compare a' y1 y2 _=>(match y1 with| [p1,p2]=>(match y2 with| [b',c']=>decide (o1=p1)&&decide (o2=p2)&&mE S a a'&&mE S b b'&&mE S c c'&&cZ c'|_=>false)|_=>false)|_=>false
 | .cmp3 o1 o2 o3 a b c d,_=>false
 | .ife c a b,e=>match e with| .IfExp c' a' b' _=>mT S c c'&&mE S a a'&&mE S b b'|_=>false
 | .tup es,e=>match e with| .Tuple es' _ _=>hG S es es'|_=>false
 | .lst es,e=>match e with| .List es' _=>hG S es es'|_=>false
 | .ix a i,e=>match e with| .Subscript a' i' _=>mE S a a'&&mE S i i'&&fh i'|_=>false
 | .sl a lo hi,e=>match e with| .Subscript a' y1 _=>(match y1 with| .Slice lo' hi' y2 _=>(match y2 with|none=>mE S a a'&&mO S lo lo'&&mO S hi hi'|_=>false)|_=>false)|_=>false
 | .fld a f,e=>match e with| .Attribute a' f' _=>mE S a a'&&decide (f=f')&&cK a'|_=>false
 | .call f es,e=>match e with| .Call y1 es' y2 _=>(match y1 with| .Name x _=>(match y2 with| []=>S.ma x&&decide (S.T.gfn.lookup x=some f)&&hG S es es'|_=>false)|_=>false)|_=>false
 | .meth a m es,e=>match e with| .Call y1 es' y2 q=>(match y1 with| .Attribute a' m' p=>(match y2 with| []=>mE S a a'&&decide (m=m')&&hG S es es'&&cK a'&&(p.endLine ==q.line)&&decide (es.len<20)|_=>false)|_=>false)|_=>false
 | .dget a k d,e=>match e with| .Call y1 es' y2 q=>(match y1 with| .Attribute a' m' p=>(match y2 with| []=>(match es' with| [k',d']=>mE S a a'&&decide (m'=("get":Str))&&mE S k k'&&notStar k'&&mE S d d'&&notStar d'&&cK a'&&(p.endLine ==q.line)|_=>false)|_=>false)|_=>false)|_=>false
 | .rev a b,_=>false
 | .lix a b,e=>match e with| .Call y1 es' y2 q=>(match y1 with| .Attribute a' m' p=>(match y2 with| []=>(match es' with| [b']=>mE S a a'&&decide (m'=("index":Str))&&mE S b b'&&notStar b'&&cK a'&&(p.endLine ==q.line)|_=>false)|_=>false)|_=>false)|_=>false
 | .lm m a es,e=>match e with| .Call y1 es' y2 q=>(match y1 with| .Attribute a' m' p=>(match y2 with| []=>mE S a a'&&decide (m'=(yI m:Str))&&hG S es es'&&cK a'&&(p.endLine ==q.line)&&decide (es.len<20)|_=>false)|_=>false)|_=>false
 | .make c es,e=>match e with| .Call y1 es' y2 _=>(match y1 with| .Name x _=>(match y2 with| []=>S.ma x&&decide (S.T.gcl.lookup x=some c)&&hG S es es'|_=>false)|_=>false)|_=>false
 | .bini es,e=>match e with| .Call y1 es' y2 q=>(match y1 with| .Attribute y3 m p=>(match y3 with| .Name x _=>(match y2 with| []=>S.ma x&&decide (m=("__init__":Str))&&S.T.gbi.contains x&&hG S es es'&&decide (es.len=2)&&(p.endLine ==q.line)|_=>false)|_=>false)|_=>false)|_=>false
 | .cini c es,e=>match e with| .Call y1 es' y2 q=>(match y1 with| .Attribute y3 m p=>(match y3 with| .Name x _=>(match y2 with| []=>S.ma x&&decide (S.T.gcl.lookup x=some c)&&decide (m=("__init__":Str))&&hG S es es'&&decide (es.len<20)&&decide (0<es.len)&&(p.endLine ==q.line)|_=>false)|_=>false)|_=>false)|_=>false
 | .bf b es,e=>match e with| .Call y1 es' y2 _=>(match y1 with| .Name x _=>(match y2 with| []=>S.ma x&&decide (x=(xp b:Str))&&S.T.gbl.contains x&&hG S es es'&&decide (0<es.len)|_=>false)|_=>false)|_=>false
 | .isi a c,e=>match e with| .Call y1 y2 y3 _=>(match y1 with| .Name x _=>(match y3 with| []=>(match y2 with| [a',c']=>S.ma x&&decide (x=("isinstance":Str))&&S.T.gbl.contains x&&mE S a a'&&B7 S c c'|_=>false)|_=>false)|_=>false)|_=>false
 | .lc elt sel it,e=>match e with| .ListComp elt' y1 scope _=>(match y1 with| [y2]=>(match y2 with|⟨y3,iter,y4,y5⟩=>(match y3 with| .Name x px=>(match y4 with| []=>(match y5 with|0=>fW S scope [x] sel&&mI S it (.Name x px) iter&&mE { S with sc:=dE S.sc scope,N:=x::sel.filterMap λi=>S.N[i]? } elt elt'&&cZ iter|_=>false)|_=>false)|_=>false))|_=>false)|_=>false
 | .lci elt c sel it,_=>false
 | .lct elt n sel it,e=>match e with| .ListComp elt' y1 scope _=>(match y1 with| [y2]=>(match y2 with|⟨y3,iter,y4,y5⟩=>(match y3 with| .Tuple ts kt pt=>(match y4 with| []=>(match y5 with|0=>fW S scope (Br ts) sel&&v9 { S with sc:=dE S.sc scope,N:=Br ts++sel.filterMap λi=>S.N[i]? } (List.range n) ts&&decide ((Br ts).length=n)&&mI S it (.Tuple ts kt pt) iter&&mE { S with sc:=dE S.sc scope,N:=Br ts++sel.filterMap λi=>S.N[i]? } elt elt'&&cZ iter|_=>false)|_=>false)|_=>false))|_=>false)|_=>false
 | .lcu elt c n sel it,_=>false
 | .dnew,_=>false
 | .up a,_=>false
 | .isiT a cs,_=>false
 | .mk0 c,e=>match e with| .Call y1 y2 y3 _=>(match y1 with| .Name x _=>(match y2 with| []=>(match y3 with| []=>S.ma x&&decide (S.T.gcl.lookup x=some c)&&S.T.inip.contains c|_=>false)|_=>false)|_=>false)|_=>false
 | .disp ks es,e=>match e with| .Dict keys vals _=>nZ ks keys&&hG S es vals&&decide (es.len=ks.length)&&decide (0<ks.length)&&decide (ks.length<=15)|_=>false
 | .vals tp a,e=>match e with| .Call y1 y2 y3 _=>(match y1 with| .Name x _=>(match y3 with| []=>(match y2 with| [y4]=>(match y4 with| .Call y5 y6 y7 q=>(match y5 with| .Attribute a' m p=>(match y6 with| []=>(match y7 with| []=>S.ma x&&decide (x=A5 tp)&&S.T.gbl.contains x&&mE S a a'&&decide (m=("values":Str))&&cK a'&&(p.endLine ==q.line)|_=>false)|_=>false)|_=>false)|_=>false)|_=>false)|_=>false)|_=>false)|_=>false
 | .dzip a b,e=>match e with| .Call y1 y2 y3 _=>(match y1 with| .Name x _=>(match y3 with| []=>(match y2 with| [y4]=>(match y4 with| .Call y5 y6 y7 _=>(match y5 with| .Name y _=>(match y7 with| []=>(match y6 with| [a',b']=>S.ma x&&decide (x=("dict":Str))&&S.T.gbl.contains x&&S.ma y&&decide (y=("zip":Str))&&S.T.gbl.contains y&&mE S a a'&&mE S b b'&&notStar a'&&notStar b'|_=>false)|_=>false)|_=>false)|_=>false)|_=>false)|_=>false)|_=>false)|_=>false
noncomputable def mT (S:Sn):Tx->Expr->Bool
 | .not a,e=>match e with| .UnaryOp y1 a' _=>(match y1 with| .Not=>mT S a a'|_=>false)|_=>false
 | .and a b,e=>match e with| .BoolOp y1 y2 p=>(match y1 with| .And=>(match y2 with|a'::b'::r=>mT S a a'&&mT S b (match r with| []=>b'|_=>.BoolOp .And (b'::r) p)|_=>false)|_=>false)|_=>false
 | .or a b,e=>match e with| .BoolOp y1 y2 p=>(match y1 with| .Or=>(match y2 with|a'::b'::r=>mT S a a'&&mT S b (match r with| []=>b'|_=>.BoolOp .Or (b'::r) p)|_=>false)|_=>false)|_=>false
 | .cmp op a b,e=>match e with| .Compare a' y1 y2 _=>(match y1 with| [op']=>(match y2 with| [b']=>decide (op=op')&&mE S a a'&&mE S b b'&&cZ b'|_=>false)|_=>false)|_=>false
 | .cmp2 o1 o2 a b c,e=>match e with| .Compare a' y1 y2 _=>(match y1 with| [p1,p2]=>(match y2 with| [b',c']=>decide (o1=p1)&&decide (o2=p2)&&mE S a a'&&mE S b b'&&mE S c c'&&cZ c'|_=>false)|_=>false)|_=>false
 | .val e,e'=>mE S e e'&&plainT e'
noncomputable def hG (S:Sn):fU->List Expr->Bool
 | .nil,es=>es.isEmpty
 | .cons e es,l=>match l with|e'::es'=>mE S e e'&&notStar e'&&hG S es es'| []=>false
noncomputable def mO (S:Sn):IZ->Option Expr->Bool
 | .no,o=>o.isNone
 | .yes e,o=>match o with|some e'=>mE S e e'|none=>false
noncomputable def mI (S:Sn):CY->Expr->Expr->Bool
 | .rng1 a,_,e=>match e with| .Call y1 y2 y3 _=>(match y1 with| .Name x _=>(match y3 with| []=>(match y2 with| [a']=>S.ma x&&decide (x=("range":Str))&&S.T.gbl.contains x&&mE S a a'&&notStar a'|_=>false)|_=>false)|_=>false)|_=>false
 | .rng2 a b,_,e=>match e with| .Call y1 y2 y3 _=>(match y1 with| .Name x _=>(match y3 with| []=>(match y2 with| [a',b']=>S.ma x&&decide (x=("range":Str))&&S.T.gbl.contains x&&mE S a a'&&mE S b b'&&notStar a'&&notStar b'|_=>false)|_=>false)|_=>false)|_=>false
 | .rng3 a b c,_,e=>false
 | .enm a,t,e=>match e with| .Call y1 y2 y3 _=>(match y1 with| .Name x _=>(match y3 with| []=>(match y2 with| [a']=>S.ma x&&decide (x=("enumerate":Str))&&S.T.gbl.contains x&&mE S a a'&&notStar a'&&(match t with| .Tuple ..=>true|_=>false)|_=>false)|_=>false)|_=>false)|_=>false
 | .enf a,t,e=>false
 | .seq a,_,e=>mE S a e
 | .zip a b,t,e=>match e with| .Call y1 y2 y3 _=>(match y1 with| .Name x _=>(match y3 with| []=>(match y2 with| [a',b']=>S.ma x&&decide (x=("zip":Str))&&S.T.gbl.contains x&&mE S a a'&&mE S b b'&&notStar a'&&notStar b'&&(match t with| .Tuple ..=>true|_=>false)|_=>false)|_=>false)|_=>false)|_=>false
 | .zip3 a b c,t,e=>false
end
end L3
namespace L3
open PySem PySem.Spec L2
variable {e:Expr}
def plainT_ok (h:plainT e=true)(env:Env)(whole:Sem Value):isTrue e env whole=(do let v <-whole;standAt e.pos;holding [v] (truthy v)):=by
 cases e<;>first|rfl|(cases h)|skip
 case UnaryOp op a p=>cases op<;>first|rfl|cases h
def bQ (h:cZ e=true)(env:Env)(x:Value):foldedSetIterable e env x=pure x:=by
 cases e<;>first|rfl|cases h
def eA (h:cZ e=true)(op:CmpOp):behindInMarks op e=false:=by
 cases e<;>first|rfl|cases h
def gQ (h:sL e=true)(t:Option Expr)(n:Nat)(env:Env):swapsWith e t n env=pure false:=by
 cases e<;>first|rfl|cases h
variable {o:Expr}
def aY (h:cK o=true)(a:Str)(env:Env)(whole:Sem Value):attributeBase o a env whole=whole:=by
 cases o with
 |Call f as ks p=>
  cases f<;>first|rfl|skip
  case Name x q=>
   cases as with
   |nil=>cases ks with
    |nil=>cases h
    |cons k ks=>rfl
   |cons b bs=>rfl
 |_=>rfl
variable {b:Expr}
def se (h:fh b=true):uB b:=by
 intro o i;cases b<;>first|rfl|cases h
variable {X:Cx}
def PE.bX {t:TE}(h:PE X e t):PE X e (λU H R=>∃ Q,t U H Q/\∀ x H1,Q x H1->R x H1):=λY s U H R I ⟨Q,q,i⟩=>
 aA (h Y s U H Q I q) λ_ _ ⟨v,H',J,r,z⟩=>⟨v,H',J,r,i _ _ z⟩
variable {t:TT}
def PT.bX (h:PT X e t):PT X e (λU H R=>∃ Q,t U H Q/\∀ x H1,Q x H1->R x H1):=λY s U H R I ⟨Q,q,i⟩=>
 aA (h Y s U H Q I q) λ_ _ ⟨H',J,z⟩=>⟨H',J,i _ _ z⟩
def PA.bX {e:List Expr}{t:TA}(h:PA X e t):PA X e (λU H R=>∃ Q,t U H Q/\∀ x H1,Q x H1->R x H1):=λpos Y s U H R I ⟨Q,q,i⟩=>
 aA (h pos Y s U H Q I q) λ_ _ ⟨v,H',J,r,z⟩=>⟨v,H',J,r,i _ _ z⟩
def PE.imp {t t':TE}(h:PE X e t)(hi:∀ U H Q,t' U H Q->t U H Q):PE X e t':=λY s U H Q I q=>h Y s U H Q I (hi _ _ _ q)
def PT.imp {t':TT}(h:PT X e t)(hi:∀ U H Q,t' U H Q->t U H Q):PT X e t':=λY s U H Q I q=>h Y s U H Q I (hi _ _ _ q)
def PS.imp {e:Stmt}{t t':TS}(h:PS X e t)(hi:∀ D U H,t' D U H->t D U H):PS X e t':=λY s U H D I q=>h Y s U H D I (hi _ _ _ q)
structure xH (P:Program) (w:World) (K:W.Frag) (mg:LG) (base:Heap) (k:Nat) (f:Addr) (d:au) (sp:Sp):Prop where
 fact:∃ fd,cN P w K mg base (zx P w) k f fd d.ps sp/\∀ j,∃ ds,Binds K fd d.ps ds/\Vals (d.dfl.drop j) ds
 own:∀ fd oc od osl,K.lookup f=some ⟨oc,od,.func fd,osl⟩->cN P w K mg base (zx P w) k f fd d.ps sp
structure Bq (K:W.Frag) (mg:LG) (T:Tab) (R:Rt):Prop where
 gfn:∀ x f,T.gfn.lookup x=some f->mg x=some (.ref (R.fad f))/\W.keepIn K (.ref (R.fad f))=true/\∃ d,T.fns[f]? =some d
 gcl:∀ x c,T.gcl.lookup x=some c->mg x=some (.ref (R.cad c))
 gbl:∀ x,T.gbl.contains x=true->mg x=none/\x≠"__name__"
 gbi:∀ x,T.gbi.contains x=true->∃ B,mg x=some (.ref B)/\Kq K B
 gl:∀ x v,R.gl x=some v->∃ u,mg x=some u/\RelV v u
 na:∀ i f,T.na.contains (i,f)=true->eO K (R.cad i) f
 me:∀ i m f,T.me.lookup (i,m)=some f->Cg K (R.cad i)/\Meth K (R.cad i) m (R.fad f)/\∃ d,T.fns[f]? =some d
 ini0:∀ c,T.ini0.contains c=true->FA K (R.cad c)
 inip:∀ c,T.inip.contains c=true->KR K (R.cad c)
 ini:∀ c f,T.ini.lookup c=some f->(∃ d,T.fns[f]? =some d)/\if T.xc.contains c=true then Jb K (R.cad c) (R.fad f) else Mk K (R.cad c) (R.fad f)
 oc:∀ c,T.oc.contains c=true->Cg K (R.cad c)/\JK K (R.cad c)
 xc:∀ c,T.xc.contains c=true->cG K (R.cad c)/\yW K (R.cad c)
 sub:∀ i j b,T.sub.lookup (i,j)=some b->W.kitOne K (.ref (R.cad i)) (.ref (R.cad j))=some b/\(T.xc.contains i=true->W.mroIn K (R.cad i) (.ref (R.cad j))=some b/\cG K (R.cad j))
 subT:∀ i n b,T.subT.lookup (i,n)=some b->W.kitOne K (.ref (R.cad i)) (.type n)=some b
 subB:∀ t n b,T.subB.lookup (t,n)=some b->W.kitOne K (.type t) (.type n)=some b
 subO:∀ t j b,T.subO.lookup (t,j)=some b->W.kitOne K (.type t) (.ref (R.cad j))=some b
 cin:∀ c f,T.cin.lookup c=some f->Kx K (R.cad c) (R.fad f)/\∃ d,T.fns[f]? =some d
structure Gd (X:Cx) (G:Gx) (S:Sn) (k:Nat) (E:St->XK):Prop where
 hK:G.R.K=X.K
 hT:S.T=G.T
 sc:X.env.scope=S.sc
 N:X.N=S.N
 nd:S.N.Nodup
 pass:Passes (zx X.prog X.w) X E
 cm:G.cm=true->X.calm=true
 room:G.cm=true->bE (k+1) X.A
 un:X.A.units+200<cLine
 tab:Bq X.K X.mg G.T G.R
 fns:∀ f d,G.T.fns[f]? =some d->xH X.prog X.w X.K X.mg X.base k (G.R.fad f) d (G.Ψ f)
variable {x:Str}{l es:List Expr}
section
variable {X:Cx}{G:Gx}{S:Sn}{k:Nat}{E:St->XK}
def Gd.bin (g:Gd X G S k E)(op:Operator):cU X (binaryOp op) (EG G.R.K op):=g.hK▸EX op
def Gd.cmp (g:Gd X G S k E)(op:CmpOp):cU X (compareOp op) (p9 G.R.K op):=g.hK▸Ep g.un op
def Gd.glob (g:Gd X G S k E)(h:S.ma x=true):Gl X x/\(x ==("__debug__":Str))=false:=by
 unfold Sn.ma at h;simp only[nb,decide_eq_true_eq,Bool.not_eq_true']at h;refine⟨?_,h.2⟩;show X.env.scope.names.lookup x=_;rw[g.sc];exact h.1
def Gd.D6 (g:Gd X G S k E)(h:S.D6 x=true):IC X.env.scope x/\(x ==("__debug__":Str))=false/\(x ==("__classdict__":Str))=false:=by
 unfold Sn.D6 at h;simp only[nb,Bool.or_eq_true,decide_eq_true_eq,Bool.not_eq_true']at h;refine⟨?_,h.1.2,h.2⟩;unfold IC;rw[g.sc];rcases h.1.1 with(h|h)|h
 .exact .inl h
 .exact .inr (.inl h)
 .exact .inr (.inr h)
def Gd.loc (g:Gd X G S k E){i:Nat}(h:S.loc i x=true):X.N[i]? =some x/\L2.Loc X.env.scope x:=by
 unfold Sn.loc at h;simp only[nb,Bool.or_eq_true,decide_eq_true_eq]at h;rw[g.N];refine⟨h.1,?_⟩;unfold L2.Loc;rw[g.sc];exact h.2
def aS:∀ {es:fU}{l:List Expr},hG S es l=true->∀ (env:Env) (pos:Pos),(backTo pos (bm l env)).any (·.1)=false
 | .nil,[],_,_,_=>rfl
 | .nil,_::_,h,_,_=>by cases(show false=true from h)
 | .cons e es,[],h,_,_=>by cases(show false=true from h)
 | .cons e es,e'::l,h,env,pos=>by
  have h:(mE S e e'&&notStar e'&&hG S es l)=true:=h;simp only[nb]at h;rw[af h.1.2];show((backTo pos (bm l env)).any (·.1))=false;exact aS h.2 env pos
def nD:∀ {es:fU}{l:List Expr},hG S es l=true->l.length=es.len
 | .nil,[],_=>rfl
 | .nil,_::_,h=>by cases(show false=true from h)
 | .cons e es,[],h=>by cases(show false=true from h)
 | .cons e es,e'::l,h=>by
  have h:(mE S e e'&&notStar e'&&hG S es l)=true:=h;simp only[nb]at h;show l.length+1=es.len+1;rw[nD h.2]
def bq {es:fU}(h:hG S es (e::l)=true):notStar e=true/\∃ x es',es=.cons x es'/\hG S es' l=true:=by
 cases es with
 |nil=>cases(show false=true from h)
 |cons x es'=>
  have h:(mE S x e&&notStar e&&hG S es' l)=true:=h;simp only[nb]at h;exact⟨h.1.2,x,es',rfl,h.2⟩
def nX:∀ {es:fU}{l:List Expr},hG S es l=true->es.len<20->∀ (env:Env) (cpos:Pos),methodCallForm (l.length+([]:List Keyword).length) (backTo cpos (bm l env)) (backToKw cpos (keywordEach [] env))=true:=by
 intro es l h hl env cpos;have h1:=aS h env cpos;have h2:=nD h;have h3:(backTo cpos (bm l env)).all (λx=>!x.1)=true:=by
  rw[all_eq_true];intro x hx;rw[any_eq_false]at h1;simpa using h1 x hx
 unfold methodCallForm;rw[h3,h2];simp[keywordEach,backToKw]
 omega
def hJ {m:Str}{apos pos:Pos}{env:Env}(hb:cK o=true)(hf:methodCallForm (es.length+([]:List Keyword).length) (backTo pos (bm es env)) (backToKw pos (keywordEach [] env))=true)(hl:(apos.endLine ==pos.line)=true):
  eval (.Call (.Attribute o m apos) es [] pos) env=(do
   let ov <-eval o env
   standAt apos.atName
   let(f,first) <-holding [ov] (getMethod ov m (do return (<-importBound o env).getD true))
   callWith pos f first (backTo pos (bm es env)) (backToKw pos (keywordEach [] env))):=by
 show(do
  let ov <-attributeBase o m env (eval o env)
  standAt apos.atName
  methodCall o m apos pos env ov (es.length+([]:List Keyword).length) (backTo pos (bm es env)) (backToKw pos (keywordEach [] env)))=_
 rw[aY hb];unfold methodCall calleeOf methodCallPos;rw[hf,hl]
 rfl
def sr {es:fU}(h:hG S es (e::l)=true)(hl:es.len<20)(env:Env)(cpos:Pos):
  ((backTo cpos (bm (e::l) env)).all (λx=>!x.1)&&(backToKw cpos (keywordEach [] env)).all (λx=>x.1.isSome)
   &&decide ((e::l).length+([]:List Keyword).length+(if([]:List Keyword).isEmpty then 0 else 1)<30))=true:=by
 have h1:=aS h env cpos;have h2:=nD h;have h3:(backTo cpos (bm (e::l) env)).all (λx=>!x.1)=true:=by
  rw[all_eq_true];intro x hx;rw[any_eq_false]at h1;simpa using h1 x hx
 rw[h3,h2];simp[keywordEach,backToKw]
 omega
def Bl {b c:Ex}{b' c':Expr}(h:mE S b b'=true)(n:notStar b'=true)(h2:mE S c c'=true)(n2:notStar c'=true)(env:Env)(cpos:Pos):
  ((backTo cpos (bm [b',c'] env)).all (λx=>!x.1)&&(backToKw cpos (keywordEach [] env)).all (λx=>x.1.isSome)
   &&decide (([b',c']:List Expr).length+([]:List Keyword).length+(if([]:List Keyword).isEmpty then 0 else 1)<30))=true:=
 sr (es:=.cons b (.cons c .nil)) (by show(mE S b b'&&notStar b'&&(mE S c c'&&notStar c'&&true))=true;rw[h,n,h2,n2];rfl) (ol rfl) env cpos
def Aw {b:Ex}{b':Expr}(h:mE S b b'=true)(n:notStar b'=true)(env:Env)(cpos:Pos):
  ((backTo cpos (bm [b'] env)).all (λx=>!x.1)&&(backToKw cpos (keywordEach [] env)).all (λx=>x.1.isSome)
   &&decide (([b']:List Expr).length+([]:List Keyword).length+(if([]:List Keyword).isEmpty then 0 else 1)<30))=true:=
 sr (es:=.cons b .nil) (by show(mE S b b'&&notStar b'&&true)=true;rw[h,n];rfl) (ol rfl) env cpos
end
variable {H:Hp}{Y:LF}{a:Addr}
section
variable {X:Cx}{G:Gx}{S:Sn}{k:Nat}{E:St->XK}
def ml {K:W.Frag}{x:V}{t:String}(h:tyName x H=some t):iB K H x (.type t):=by
 unfold tyName at h
 split at h
 .cases h;exact .non
 .cases h;exact .bl _
 .cases h;exact .int _
 .cases h;exact .str _
 .split at h
  .rename_i e;cases h;exact .lst e
  .rename_i e;cases h;exact .tup e
  .rename_i e;cases h;exact .dK e
  .cases h
 .cases h
def uf {s:Shared}{U:St}{Q:VK}{i:Nat}{b:Bool}{cv:Value}(g:Gd X G S k E)(I:Inv X Y U H s)(o:wu G H a i)
  (e:W.kitOne X.K (.ref (G.R.cad i)) cv=some b) (q:Q (.bl b) H):wpAny (model X.prog X.w) X.A (call (.builtin "isinstance") [.ref a,cv]) (EP X Y U Q) X.xe s:=by
 rcases o with⟨ho,dx,fs,ha⟩|⟨ho,dx,fs,fr,ha⟩
 .obtain⟨c,z⟩:=g.tab.oc i ho;exact iG I (x:=.ref a) rfl (.ins ha c z.ha z.hn z.htk z.hm) e λtk=>⟨.bl b,H,I.tok _,rfl,q⟩
 .obtain⟨c,z⟩:=g.tab.xc i ho;exact wX I ha c z e λtk=>⟨.bl b,H,I.tok _,rfl,q⟩
def Cf (g:Gd X G S k E)(j:Nat):dc X (.builtin "isinstance") (λvs H Q=>∃ x,vs=[x,.ref (G.R.cad j)]/\lq G (.own j) x H Q):=by
 intro Y s U H xs us Q I r h;obtain⟨x,rfl,h⟩:=h;obtain⟨u,w',rfl,rx,rT⟩:=vals2 r;obtain rfl:w'=Value.ref (G.R.cad j):=rT;unfold lq at h;rcases h with⟨t,b,ht,hb,q⟩|⟨a,i,b,rfl,ho,hb,q⟩
 .exact iG I rx (ml ht) (g.tab.subO t j b hb) λtk=>⟨.bl b,H,I.tok _,rfl,q⟩
 .obtain rfl:u=Value.ref a:=rx;exact uf g I ho (g.tab.sub i j b hb).1 q
def Dz (g:Gd X G S k E)(n:String):dc X (.builtin "isinstance") (λvs H Q=>∃ x,vs=[x,.ty n]/\lq G (.ty n) x H Q):=by
 intro Y s U H xs us Q I r h;obtain⟨x,rfl,h⟩:=h;obtain⟨u,w',rfl,rx,rT⟩:=vals2 r;obtain rfl:w'=Value.type n:=rT;unfold lq at h;rcases h with⟨t,b,ht,hb,q⟩|⟨a,i,b,rfl,ho,hb,q⟩
 .exact iG I rx (ml ht) (g.tab.subB t n b hb) λtk=>⟨.bl b,H,I.tok _,rfl,q⟩
 .obtain rfl:u=Value.ref a:=rx;exact uf g I ho (g.tab.subT i n b hb) q
def BW {n:String}(h:jR.contains n=true):bootBuiltins (n:Str)=some (.type n):=by
 have h':n ∈ jR:=by simpa using h
 simp only[jR,mo,not_mem_nil,or_false]at h';rcases h' with rfl|rfl|rfl|rfl|rfl|rfl|rfl<;>decide+kernel
abbrev KA (G:Gx):Cl->V
 | .own c=>.ref (G.R.cad c)
 | .ty n=>.ty n
def GJ (g:Gd X G S k E){c:Cl}(h:B7 S c e=true):PE X e (tC (KA G c)):=by
 unfold B7 at h
 split at h
 .simp only[nb,decide_eq_true_eq]at h;obtain⟨hg,hd⟩:=g.glob h.1;exact uw hg (g.tab.gcl _ _ (g.hT▸h.2)) rfl hd
 .simp only[nb,decide_eq_true_eq]at h;obtain⟨⟨⟨h1,rfl⟩,h3⟩,h4⟩:=h;obtain⟨hg,hd⟩:=g.glob h1;obtain⟨hm,hn⟩:=g.tab.gbl _ (g.hT▸h3);exact Cj hg hm (BW h4) rfl hn hd
 .cases h
def DM (g:Gd X G S k E)(c:Cl):dc X (.builtin "isinstance") (λvs H Q=>∃ x,vs=[x,KA G c]/\lq G c x H Q):=by
 cases c with
 |own j=>exact Cf g j
 |ty n=>exact Dz g n
abbrev yy:Bf->Value
 | .len=>.builtin "len"| .list=>.type "list"| .tuple=>.type "tuple"| .int=>.type "int"| .str=>.type "str"| .min=>.builtin "min"| .max=>.builtin "max"| .abs=>.builtin "abs"| .all=>.builtin "all"| .any=>.builtin "any"| .dict=>.type "dict"| .sum=>.builtin "sum"
def Af (b:Bf):bootBuiltins (xp b:Str)=some (yy b):=by cases b<;>decide+kernel
def nQ:dc X (.type "dict") (λvs H Q=>∃ p kvs,vs=[.ref p]/\H p=some (.dK kvs)/\∀ l,H l=none->Q (.ref l) (upd H l (.dK kvs))):=by
 intro Y s U H xs us Q I r h;obtain⟨p,kvs,rfl,hp,q⟩:=h;obtain⟨u,rfl,rx⟩:=vals1 r;cases rx;exact wq I (.inl hp) λl s' hl J=>⟨.ref l,_,J,rfl,q l hl⟩
def Hr (g:Gd X G S k E)(b:Bf):dc X (yy b) (rY G b):=by
 intro Y s U H xs us Q I r h;unfold rY at h;rw[g.hK]at h;cases b with
 |len=>exact zg Y s U H _ us Q I r h
 |list=>
  rcases h with h|⟨hc,p,kvs,rfl,hp,q⟩
  .exact om Y s U H _ us Q I r h
  .obtain⟨u,rfl,ru⟩:=vals1 r;cases ru;exact rW (g.cm hc) I hp q
 |tuple=>exact lu Y s U H _ us Q I r h
 |int=>exact ve Y s U H _ us Q I r h
 |str=>
  rcases h with h|⟨z,rfl,q⟩
  .exact nI Y s U H _ us Q I r h
  .obtain⟨u,rfl,t,rfl⟩:=vals1 r;exact PySem.P.str_of_str ⟨.str z,H,I,⟨_,rfl⟩,q⟩
 |min=>
  rcases h with⟨hc,h|h⟩
  .exact vN (g.cm hc) Y s U H _ us Q I r h
  .exact h.elim
 |max=>exact h.elim
 |abs=>exact h.elim
 |all=>exact h.elim
 |any=>exact h.elim
 |dict=>exact nQ Y s U H _ us Q I r h
 |sum=>exact h.elim
abbrev FP:Lm->String
 | .append=>"list.append"| .extend=>"list.extend"| .insert=>"list.insert"| .pop=>"list.pop"| .clear=>"list.clear"| .reverse=>"list.reverse"| .count=>"list.count"
def um (m:Lm):Slot "list" (yI m:Str) (FP m):=by
 cases m
 .exact PySem.F.slot_list_append
 .exact PySem.F.slot_list_extend
 .exact PySem.F.slot_list_insert
 .exact PySem.F.slot_list_pop
 .exact PySem.F.slot_list_clear
 .exact PySem.F.slot_list_reverse
 .exact PySem.F.slot_list_count
def C4 (m:Lm):typeOf (.builtin (FP m))=pure (.type "method_descriptor"):=by cases m<;>rfl
def zG (hu:X.A.units+200<cLine):GU X "list.index" (λx vs H Q=>∃ l y,x=.ref l/\vs=[y]/\w4 X.K l y H Q):=by
 intro Y s U H x vs v us Q I rx rv h;obtain⟨l,y,rfl,rfl,h⟩:=h;unfold w4 at h;obtain⟨xs,e,j,xj,hH,h10,he,hj,ej,hm,q⟩:=h;cases rx;cases rv with
 |cons ry rr=>
  cases rr;obtain⟨z,its,n,r,hl,eh⟩:=I.oZ hH;have ab:∀ (m:Nat) (hm:m<its.toArray.size),∃ x,xs[m]? =some x/\RelV x its.toArray[m]:=λm hm=>by
   have hlen:=r.length;have h1:xs[m]? =some (xs[m]'(by simp at hm;omega)):=li _;obtain⟨u,hu,ru⟩:=r.get h1;refine⟨_,h1,?_⟩;have:its.toArray[m]=u:=by
    have:=sw.mp hu;simpa using this.2
   rw[this];exact ru
  have hjl:=(sw.mp hj).1;have hlen:=r.length;have val:∀ (m:Nat) (hm:m<its.toArray.size) x,xs[m]? =some x->(match E3 its.toArray[m] with|some x=>e x|none=>false)=e x:=λm hm x hx=>by
   obtain⟨x',h1,h2⟩:=ab m hm;rw[hx]at h1;cases h1;rw[h2.abs]
  refine call_meets PySem.F.slot_list_index ⟨_,eh,rfl⟩ PySem.F.entry_list_index (PySem.F.args_list_index_2 _ _) (SeqAt.list_indexAt l its.toArray n none #[] _ (λu=>match E3 u with|some x=>e x|none=>false) j (by simp;omega) nofun ((val j (by simp;omega) xj hj).trans ej) (λm hm' hlt=>?_)) ⟨eh,λu hu'=>?_,?_⟩
  .obtain⟨x',h1,h2⟩:=ab m hm';rw[val m hm' x' h1];exact hm m x' hlt h1
  .obtain⟨m,hm',rfl⟩:=Array.getElem_of_mem hu';obtain⟨x',h1,h2⟩:=ab m hm';obtain⟨k,hk,ek⟩:=he x' (cr h1);have:=(la I ek (A:=X.A.in1) (by show X.A.units+_+k<cLine;omega) h2 ry).1;rw[val m hm' x' h1];exact this
  .exact⟨.int _,H,I.tok _,⟨_,rfl⟩,q⟩
abbrev Ll (m:Lm):V->List V->Hp->VK->Prop:=λx vs H Q=>∃ p xs,x=.ref p/\H p=some (.lst xs)/\HW m p xs vs H Q
def CA (m:Lm):GU X (FP m) (Ll m):=by
 intro Y s U H x vs v us Q I rx rv h;obtain⟨p,xs,rfl,hp,h⟩:=h;unfold HW at h;cases m with
 |append=>
  obtain⟨y,rfl,h⟩:=h;exact hE Y s U H _ _ v us Q I rx rv ⟨p,xs,_,rfl,rfl,hp,Nat.lt_of_le_of_lt h.1 (by decide),h.2⟩
 |extend=>
  obtain⟨b,zs,rfl,hz,hl,q⟩:=h;exact vM Y s U H _ _ v us Q I rx rv ⟨p,_,xs,zs,rfl,rfl,hp,hz,mw nofun,q⟩
 |insert=>exact h.elim
 |pop=>exact h.elim
 |clear=>exact h.elim
 |reverse=>exact h.elim
 |count=>exact h.elim
def yE {m:Str}{apos pos:Pos}{ta:TE}{t:TA}{pl:Sem Bool}{n:Nat}(g:Gd X G S k E)(hc:G.cm=true)(he:PE X o ta)(ha:PA X es t)
  (hnil:es=[]->∀ U H R,t U H R->R [] H) (hst:∀ e r,es=e::r->bm es X.env=(false,eval e X.env)::bm r X.env) (hpl:∀ e r,es=e::r->(backTo pos (bm r X.env)).any (·.1)=false)
  (ht:eval (.Call (.Attribute o m apos) es [] pos) X.env=(do
   let ov <-eval o X.env
   standAt apos.atName
   let(f,first) <-holding [ov] (getMethod ov m pl)
   callWith pos f first (backTo pos (bm es X.env)) (backToKw pos (keywordEach [] X.env)))):
  PE X (.Call (.Attribute o m apos) es [] pos) (λU H Q=>ta U H λx H1=>∃ p i dx fs f,x=.ref p/\H1 p=some (.ins (G.R.cad i) dx fs)/\fs.lookup m=none/\G.T.me.lookup (i,m)=some f/\
   t U H1 λvs H2=>G.Ψ f (x::(vs++dflt G f n)) H2 Q (E U)):=by
 intro Y s U H Q I h;refine W.methodCall_KW (pl:=pl) (aA (he Y s U H _ I h) λu s1 ⟨x,H1,I1,rx,a,i,dx,fs,f,ex,ea,l,hf,q⟩=>?_) ht;subst ex;obtain rfl:u=Value.ref a:=rx;obtain⟨c,hm,d,hd⟩:=g.tab.me i m f hf;obtain⟨fd,F,B⟩:=(g.fns f d hd).fact;have hr:bE k X.A:=(g.room hc).mono (Nat.le_succ _);obtain⟨ds,hb,hv⟩:∃ ds,Binds X.K fd d.ps ds/\Vals (dflt G f n) ds:=by
  unfold dflt;rw[hd];exact B _
 refine rf I1 ea c hm l ?_;cases es with
 |nil=>
  refine W.callWith_K0 (first:=[.ref a]) I1.bL hm.kp ?_;exact jS (us:=[.ref a]) (vs:=[.ref a]) F hr hb hv g.pass I1 (.cons rfl .nil) (hnil rfl _ _ _ q)
 |cons e r=>
  refine W.callWith_K (first:=[.ref a]) (h₀:=X.base) I.ok.mod.kin hm.kp (aA (ha pos Y s1 U H1 _ I1 q) λus s2 ⟨vs,H2,I2,r,q2⟩=>⟨I2.bL,?_⟩) (hst e r rfl) (hpl e r rfl);exact jS (us:=.ref a::us) (vs:=.ref a::vs) F hr hb hv g.pass I2 (.cons rfl r) q2
end
def CM {α β:Type}{f:α->Option β}:∀ {l:List α}{j:Nat}{y:β},(∀ a ∈ l,(f a).isSome=true)->(l.filterMap f)[j]? =some y->∃ a,l[j]? =some a/\f a=some y
 | [],_,_,_,h=>by simp at h
 |a::l,j,y,hs,h=>by
  obtain⟨b,hb⟩:=Option.isSome_iff_exists.mp (hs a lw);rw[filterMap_cons,hb]at h;cases j with
  |zero=>simp at h;exact⟨a,rfl,by rw[hb,h]⟩
  |succ j=>
   simp at h;obtain⟨a',h1,h2⟩:=CM (λa ha=>hs a (dl _ ha)) h;exact⟨a',by simpa using h1,h2⟩
def zJ {α β:Type}{f:α->Option β}:∀ {l:List α},(∀ a ∈ l,(f a).isSome=true)->(l.filterMap f).length=l.length
 | [],_=>rfl
 |a::l,hs=>by
  obtain⟨b,hb⟩:=Option.isSome_iff_exists.mp (hs a lw);rw[filterMap_cons,hb];simp[zJ (λa ha=>hs a (dl _ ha))]
abbrev kq (env:Env):Str×NameKind->List (Str×Addr)->Sem (ForInStep (List (Str×Addr))):=λnk r=>do
 let cs:=r
 if(nk.2 ==NameKind.free)=true then do
  let a <-cellOf env nk.1
  pure (ForInStep.yield ((nk.1,a)::cs))
 else pure (ForInStep.yield cs)
def mY {env:Env}:∀ (names:List (Str×NameKind)) (cs:List (Str×Addr)),(∀ y ∈ names,y.2=.free->∃ c,env.cells.lookup y.1=some c)->
  ∃ cl,(forIn names cs (kq env):Sem _)=pure cl/\(∀ y c,cl.lookup y=some c->cs.lookup y=some c\/env.cells.lookup y=some c)/\(∀ y,(cs.lookup y).isSome=true->(cl.lookup y).isSome=true)/\∀ y ∈ names,y.2=.free->(cl.lookup y.1).isSome=true
 | [],cs,_=>⟨cs,rfl,λy c h=>.inl h,λy h=>h,λy hy=>absurd hy (by simp)⟩
 |(n,kd)::r,cs,h=>by
  by_cases hk:kd=.free
  .subst hk;obtain⟨c,hc⟩:=h (n,.free) lw rfl;obtain⟨cl,h1,h2,h3,h4⟩:=mY r ((n,c)::cs) λy hy=>h y (dl _ hy)
   have self:(((n,c)::cs).lookup n).isSome=true:=by simp[lookup_cons]
   refine⟨cl,?_,λy d q=>?_,λy q=>h3 y ?_,λy hy hf=>?_⟩
   .rw[forIn_cons];have e:kq env (n,.free) cs=pure (ForInStep.yield ((n,c)::cs)):=by
     unfold kq;simp only[cellOf,hc]
     rfl
    rw[e];exact h1
   .rcases h2 y d q with q|q
    .rw[lookup_cons]at q
     by_cases e:y=n
     .subst e;simp at q;subst q;exact .inr hc
     .rw[show(y ==n)=false from beq_eq_false_iff_ne.mpr e]at q;exact .inl q
    .exact .inr q
   .rw[lookup_cons];cases(y ==n)<;>simp[q]
   .rcases mo.mp hy with rfl|hy
    .exact h3 _ self
    .exact h4 y hy hf
  .obtain⟨cl,h1,h2,h3,h4⟩:=mY r cs λy hy=>h y (dl _ hy)
   refine⟨cl,?_,h2,h3,λy hy hf=>?_⟩
   .rw[forIn_cons];have e:kq env (n,kd) cs=pure (ForInStep.yield cs):=by
     unfold kq;cases kd<;>first|rfl|exact absurd rfl hk
    rw[e];exact h1
   .rcases mo.mp hy with rfl|hy
    .exact absurd hf hk
    .exact h4 y hy hf
variable {scope:Scope}
def Ba {env:Env}(h:∀ y ∈ scope.names,y.2=.free->∃ c,env.cells.lookup y.1=some c):
  ∃ cl,closureFor scope env=pure cl/\(∀ y c,cl.lookup y=some c->env.cells.lookup y=some c)/\∀ y ∈ scope.names,y.2=.free->(cl.lookup y.1).isSome=true:=by
 obtain⟨cl,h1,h2,_,h4⟩:=mY scope.names [] h;refine⟨cl,?_,λy c q=>(h2 y c q).resolve_left (by simp),h4⟩;have e:closureFor scope env=(forIn scope.names [] (kq env) >>= λcs=>pure cs):=by
  unfold closureFor kq
  rfl
 rw[e,h1]
 rfl
variable {xs:List Str}{sel:List Nat}
section
variable {X:Cx}{G:Gx}{S:Sn}{k:Nat}{E:St->XK}
def pQ (g:Gd X G S k E)(scope:Scope):relabel scope X.env=dE S.sc scope:=by
 unfold relabel dE Env.kindOf;rw[g.sc]
def cn (g:Gd X G S k E)(ok:X.Ok)(h:fW S scope xs sel=true):∃ cl,bB X scope cl xs (sel.filterMap λi=>S.N[i]?) sel:=by
 unfold fW at h;simp only[nb,decide_eq_true_eq,all_eq_true,Bool.or_eq_true,bne_iff_ne,ne_eq]at h;obtain⟨⟨⟨⟨⟨h1,h2⟩,h3⟩,h4⟩,h5⟩,h6⟩:=h;have hs:∀ i ∈ sel,(S.N[i]?).isSome=true:=λi hi=>by
  have:=h5 i hi
  split at this
  .rename_i e;rw[e];rfl
  .cases this
 obtain⟨cl,c1,c2,c3⟩:=Ba (env:=X.env) (scope:=scope) λy hy hf=>ok.has y.1 (.inl (by
  show X.env.scope.names.lookup y.1=_;rw[g.sc];exact((h3 y hy).2).resolve_left λz=>z hf))
 refine⟨cl,⟨c1,c2,λy hy=>?_,h1,λy hy=>(h3 y hy).1.1,λy hy hl=>((h3 y hy).1.2).resolve_left λz=>z hl,h4,(zJ hs).symm,λj y hj=>?_,h6⟩⟩
 .have:∃ kd,(y,kd) ∈ scope.names/\kd=.free:=by
   rcases hy with hy|hy
   .obtain⟨kd,m,q⟩:=dy hy;rcases q with q|q
    .subst q;exact absurd rfl (h3 _ m).1.1
    .exact⟨kd,m,q.1⟩
   .obtain⟨kd,m,q⟩:=dy hy;rcases q with q|q
    .exact⟨kd,m,q.symm⟩
    .exact nomatch q.2
  obtain⟨kd,m,rfl⟩:=this;exact Option.isSome_iff_exists.mp (c3 _ m rfl)
 .obtain⟨i,hi,hn⟩:=CM hs hj;have q:=h5 i (cr hi);rw[hn]at q;simp only[nb,decide_eq_true_eq]at q;refine⟨i,hi,by rw[g.N];exact hn,by rw[g.sc];exact q.1,by rw[pQ g];exact q.2⟩
def Gd.comp (g:Gd X G S k E){cl:List (Str×Addr)}(C:bB X scope cl xs (sel.filterMap λi=>S.N[i]?) sel) (s:Shared) (H:Hp) (fp:List Addr):
  Gd (fE X scope cl (xs++sel.filterMap λi=>S.N[i]?) s H fp) G { S with sc:=dE S.sc scope,N:=xs++sel.filterMap λi=>S.N[i]? } k (λ_ _ _=>False) where
 hK:=g.hK
 hT:=g.hT
 sc:=pQ g scope
 N:=rfl
 nd:=C.nd
 pass:=λY U H s e s' I h=>by
  obtain⟨e,H',C,dx,fs,T,_,_,_,_,_,_,_,_,_,q⟩:=h;exact q.elim
 cm:=g.cm
 room:=g.room
 un:=g.un
 tab:=g.tab
 fns:=g.fns
def qd (env:Env):∀ {is:List Nat}{ts:List Expr},v9 S is ts=true->(assignEach ts env).length=is.length/\(assignEach ts env).findIdx? (·.1)=none
 | [],[],_=>⟨rfl,rfl⟩
 | [],_::_,h=>by simp[v9]at h
 |_::_,[],h=>by simp[v9]at h
 |i::is,t::ts,h=>by
  cases t<;>simp[v9]at h
  rename_i x p;obtain⟨h1,h2⟩:=qd env h.2;have e:assignEach (.Name x p::ts) env=(false,assign (.Name x p) env)::assignEach ts env:=rfl;rw[e];refine⟨by simp[h1],?_⟩;rw[List.findIdx?_cons];simp[h2]
def tT (g:Gd X G S k E):∀ {is:List Nat}{ts:List Expr},v9 S is ts=true->FW X ts (gl is)
 | [],[],_=>λY s U H vs us Q I r h=>m8 Y s U H vs us Q I r ⟨length_eq_zero_iff.mp h.1,by
   have:=h.2;have e:vs=[]:=length_eq_zero_iff.mp h.1;subst e;exact this⟩
 | [],_::_,h=>by simp[v9]at h
 |_::_,[],h=>by simp[v9]at h
 |i::is,t::ts,h=>by
  cases t<;>simp[v9]at h
  rename_i x p;have hl:X.env.scope.names.lookup x=some .local:=by rw[g.sc];exact h.1.2
  have h1:PG X (.Name x p) (gJ i):=gI (by rw[g.N];exact g.nd) (by rw[g.N];exact h.1.1) (.inl hl) (.inr hl);have h2:=tT g h.2;intro Y s U H vs us Q I r q;refine gm h1 h2 rfl Y s U H vs us Q I r ?_;obtain⟨hl,q⟩:=q;cases vs with
  |nil=>simp at hl
  |cons v vs=>exact⟨v,vs,rfl,by simpa using hl,q⟩
def tD (g:Gd X G S k E)(hc:G.cm=true){n kt:Nat}{ts:List Expr}{pt:Pos}(h:v9 S (List.range n) ts=true):PG X (.Tuple ts kt pt) (Ce G.R.K n (gl (List.range n))):=by
 obtain⟨e1,e2⟩:=qd X.env h;rw[List.length_range]at e1;rw[g.hK];exact nP (g.cm hc) (tT g h) e1 e2
def uc {n:Nat}(h:xs.length=n):pN xs=sn n none:=by
 subst h;unfold pN;rw[List.map_const']
end
set_option maxHeartbeats 2000000
variable {r:List Expr}{p:Pos}{U:L2.St}{s1:Shared}{R:It->Hp->Prop}{keys:List (Option Expr)}
section
variable {G:Gx}{k:Nat}
def kN {o1 o2:CmpOp}{c:Expr}(h:cZ c=true):lastMarks [o1,o2] [b,c]=false:=by
 show behindInMarks o2 c=false;exact eA h _
def wM {t:TE}(h:PE X (match r with| []=>b|_=>.BoolOp .And (b::r) p) t):PE X (.BoolOp .And (b::r) p) t:=by
 cases r with
 |nil=>exact wo h
 |cons c r=>exact h
def xb {t:TE}(h:PE X (match r with| []=>b|_=>.BoolOp .Or (b::r) p) t):PE X (.BoolOp .Or (b::r) p) t:=by
 cases r with
 |nil=>exact wo h
 |cons c r=>exact h
def Df {op:BoolOp}(h:PT X (.BoolOp op l p) t):PW X (.BoolOp op l p) t:=λwhole Y s U H Q I q=>by
 have:=h Y s U H Q I q;exact this
def zD (h:PT X (match r with| []=>b|_=>.BoolOp .And (b::r) p) t):PW X (.BoolOp .And (b::r) p) t:=by
 cases r with
 |nil=>exact B9 h
 |cons c r=>exact Df h
def xB (h:PT X (match r with| []=>b|_=>.BoolOp .Or (b::r) p) t):PW X (.BoolOp .Or (b::r) p) t:=by
 cases r with
 |nil=>exact DJ h
 |cons c r=>exact Df h
def Bz:Jd X (unaryOp .USub) (λx H Q=>match x with| .int i=>Q (.int (-i)) H|_=>False):=by
 intro Y s U H x v Q I r h
 split at h
 .exact(L2.Fg Y s U H _ v Q I r ⟨_,rfl,h⟩)
 .exact h.elim
def uX {CX:qT}{C f:Addr}{fd:FuncData}{ps:List Str}{sp:Sp}{dvs:List V}{ds:List Value}{E:St->XK}{pos:Pos}(M:Jb X.K C f)(F:cN X.prog X.w X.K X.mg X.base CX k f fd ps sp)(hr:bE (k+1) X.A)(hg:Gl X x)(hm:X.mg x=some (.ref C))(hb:Binds X.K fd ps ds)(hd:Vals dvs ds)(hx:Passes CX X E)
  (hdb:(x ==("__debug__":Str))=false):PE X (.Call (.Name x p) [] [] pos) (xG C sp dvs E BU):=by
 intro Y s U H Q I h;refine bv (bt I hg hm ?_ hdb);exact W.callWith_K0 I.bL M.kp (mz (us:=[]) M F hr hb hd hx (Nat.zero_le _) I .nil h.2)
def cU.bX {f:Value->Value->Sem Value}{r:R2}(h:cU X f r):cU X f (λx y H R=>∃ Q,r x y H Q/\∀ z H1,Q z H1->R z H1):=λY s U H x y v u R I rx ry ⟨Q,q,i⟩=>
 aA (h Y s U H x y v u Q I rx ry q) λ_ _ ⟨v,H',J,r,z⟩=>⟨v,H',J,r,i _ _ z⟩
section
open PyProof.Rows
def uV {tg:Expr}{H1:Hp}{v:Value}{xs:List V}(I1:Inv X Y U H1 s1)(r:RelV (.ref a) v)(hq:bj X.K H1 a xs)(q:R (Cp X.K a) H1):
  wpAny (model X.prog X.w) X.A (pyIter v) (IX X Y U tg R) X.xe s1:=by
 cases r;obtain⟨its,rv,p,hz⟩:=I1.list hq;refine wpAny_pyIter_list p.isList ?_;refine⟨s1.heap.objs.size,[s1.heap.objs.size],_,_,H1,rfl,I1.kept (t':=s1.toks) λb o e=>sK _ e,uS a _,⟨_,ul _ rfl,rfl,rfl⟩,λb hb=>?_,q⟩;have e:b=s1.heap.objs.size:=by simpa using hb
 subst e;exact I1.zt (pi _) (I1.hok.fresh (pi _))
def wU {tg:Expr}{H1:Hp}{v:Value}{xs:List V}(I1:Inv X Y U H1 s1)(r:RelV (.ref a) v)(hq:bg X.K H1 a xs)(q:R (Gk X.K a) H1):
  wpAny (model X.prog X.w) X.A (pyIter v) (IX X Y U tg R) X.xe s1:=by
 cases r;obtain⟨its,rv,p,hz⟩:=I1.tuple hq;refine wpAny_pyIter_tuple (show s1.heap.IsTuple a its.toArray from p) ?_;refine⟨s1.heap.objs.size,[s1.heap.objs.size],_,_,H1,rfl,I1.kept (t':=s1.toks) λb o e=>sK _ e,qM a _,⟨_,ul _ rfl,rfl,rfl⟩,λb hb=>?_,q⟩;have e:b=s1.heap.objs.size:=by simpa using hb
 subst e;exact I1.zt (pi _) (I1.hok.fresh (pi _))
end
def DP {K:W.Frag}{x:V}{Q:Bool->Hp->Prop}(h:Ed K x H Q):∃ k,Ab K x H k/\Q k H:=by
 unfold Ed at h
 split at h
 .exact⟨_,rfl,h⟩
 .exact h
abbrev IM:List Str->List V->List (V×V)
 |k::ks,x::xs=>(.str k,x)::IM ks xs
 |_,_=>[]
def wK:∀ {ks:List Str}{xs:List V},IM ks xs=(DL ks xs).map (λkv=>(kV kv.1,kv.2))
 | [],_=>rfl
 |_::_,[]=>rfl
 |k::ks,x::xs=>by
  show(V.str k,x)::IM ks xs=(kV (.inr k),x)::(DL ks xs).map _;rw[wK]
  rfl
def t5:∀ {ks:List Str}{xs:List V},(DL ks xs).length<=ks.length
 | [],_=>pi _
 |_::_,[]=>Nat.zero_le _
 |k::ks,x::xs=>Nat.succ_le_succ t5
def hR {k:Str}{ks:List Str}(h:nZ (k::ks) keys=true):∃ j p r,keys=some (.Constant (.str k) j p)::r/\nZ ks r=true:=by
 unfold nZ at h
 split at h
 .rename_i e;cases e
 .rename_i k' ks' x j p r e
  injection e with e1 e2
  subst e1 e2;simp only[nb,decide_eq_true_eq]at h;obtain⟨rfl,h⟩:=h;exact⟨_,_,_,rfl,h⟩
 .cases h
def kC (h:nZ [] keys=true):keys=[]:=by
 cases keys with
 |nil=>rfl
 |cons a r=>cases(show false=true from h)
def pO:∀ {ks:List Str}{keys:List (Option Expr)},nZ ks keys=true->keys.length=ks.length
 | [],keys,h=>by rw[kC h];rfl
 |k::ks,keys,h=>by
  obtain⟨j,p,r,rfl,h2⟩:=hR h;rw[length_cons,length_cons,pO h2]
def oO:∀ {ks:List Str}{keys:List (Option Expr)},nZ ks keys=true->keys.all (·.isSome)=true
 | [],keys,h=>by rw[kC h];rfl
 |k::ks,keys,h=>by
  obtain⟨j,p,r,rfl,h2⟩:=hR h;rw[all_cons,oO h2]
  rfl
def wx {S:Sn}:∀ {x:fU}{e:List Expr},hG S x e=true->e.length=x.len
 | .nil,[],_=>rfl
 | .nil,_::_,h=>by cases(show false=true from h)
 | .cons x xs,[],h=>by cases(show false=true from h)
 | .cons x xs,e::es,h=>by
  have h:(mE S x e&&notStar e&&hG S xs es)=true:=h;simp only[nb]at h;exact congrArg Nat.succ (wx h.2)
mutual
theorem sE:∀ (x:Ex){X:Cx}{S:Sn}{E:St->XK},Gd X G S k E->∀ {e:Expr},mE S x e=true->PE X e (λU H Q=>wE G x U H Q (E U))
 | .v i,X,S,E,g,e,h=>by
  sleep 1
  simp only[nb,decide_eq_true_eq]at h;obtain⟨h1,h2⟩:=h;obtain⟨v1,v2,v3⟩:=g.D6 h2;refine PE.imp (EE (i:=i) (by rw[g.N];exact h1) v1 v2 v3) λU H Q q=>?_
  conv at q=>whnf
  split at q
  .rename_i e;exact⟨_,e,q⟩
  .exact q.elim
 | .int i,X,S,E,g,e,h=>by
  sleep 2
  simp only[decide_eq_true_eq]at h;subst h;exact DI
 | .bl i,X,S,E,g,e,h=>by
  sleep 2
  simp only[decide_eq_true_eq]at h;subst h;exact Ig
 | .non,X,S,E,g,e,h=>by
  sleep 2
  exact Eo
 | .str i,X,S,E,g,e,h=>by
  sleep 2
  simp only[decide_eq_true_eq]at h;subst h;exact zl
 | .gl x,X,S,E,g,e,h=>by
  sleep 1
  simp only[nb,decide_eq_true_eq]at h;obtain⟨rfl,h2⟩:=h;obtain⟨hg,hd⟩:=g.glob h2;intro Y s U H Q I q
  conv at q=>whnf
  split at q
  .rename_i v e;obtain⟨u,hm,r⟩:=g.tab.gl _ v e;exact uw hg hm r hd Y s U H Q I q
  .exact q.elim
 | .bin op a b,X,S,E,g,e,h=>by
  sleep 1
  simp only[nb,decide_eq_true_eq]at h;obtain⟨⟨rfl,ha⟩,hb⟩:=h;exact Iq (g.bin op) (sE a g ha) (sE b g hb)
 | .neg a,X,S,E,g,e,h=>by
  sleep 2
  exact Ip Bz (sE a g h)
 | .not a,X,S,E,g,e,h=>by
  sleep 2
  refine PE.imp (FH (PE.bX (sE a g h))) λU H Q q=>⟨_,q,λx H1 z=>?_⟩
  split at z
  .exact⟨_,rfl,z⟩
  .exact z.elim
 | .and a b,X,S,E,g,e,h=>by
  sleep 3
  simp only[nb]at h;refine PE.imp (FR (PE.bX (sE a g h.1)) (wM (sE b g h.2))) λU H Q q=>⟨_,q,λx H1 z=>?_⟩
  split at z
  .rw[dv]at z;exact⟨_,rfl,z⟩
  .exact z.elim
 | .or a b,X,S,E,g,e,h=>by
  sleep 3
  simp only[nb]at h;refine PE.imp (Gr (PE.bX (sE a g h.1)) (xb (sE b g h.2))) λU H Q q=>⟨_,q,λx H1 z=>?_⟩
  split at z
  .rw[dv]at z;exact⟨_,rfl,z⟩
  .exact z.elim
 | .cmp op a b,X,S,E,g,e,h=>by
  sleep 3
  simp only[nb,decide_eq_true_eq]at h;obtain⟨⟨⟨rfl,ha⟩,hb⟩,hn⟩:=h;exact AA (g.cmp op) (sE a g ha) (sE b g hb) (eA hn _)
 | .cmp2 o1 o2 a b c,X,S,E,g,e,h=>by
  sleep 3
  simp only[nb,decide_eq_true_eq]at h;obtain⟨⟨⟨⟨⟨rfl,rfl⟩,ha⟩,hb⟩,hc⟩,hn⟩:=h;refine PE.imp (xh (cU.bX (g.cmp o1)) (g.cmp o2) (PE.bX (sE a g ha)) (PE.bX (sE b g hb)) (sE c g hc) (kN hn)) λU H Q q=>⟨_,q,λx H1 q1=>⟨_,q1,λy H2 q2=>⟨_,q2,λz H3 q3=>?_⟩⟩⟩
  split at q3
  .rw[dv]at q3;exact⟨_,rfl,q3⟩
  .exact q3.elim
 | .cmp3 o1 o2 o3 a b c d,X,S,E,g,e,h=>by cases(show false=true from h)
 | .ife c a b,X,S,E,g,e,h=>by
  sleep 1
  simp only[nb]at h;exact PE.imp (yq (PT.bX (sT c g h.1.1)) (sE a g h.1.2) (sE b g h.2)) λU H Q q=>⟨_,q,λk H1 z=>by rwa [dv]at z⟩
 | .tup es,X,S,E,g,e,h=>by
  sleep 1
  refine PE.imp (Ff (PA.bX (rl es g h))) λU H Q q=>⟨_,q,λx H1 z=>by unfold mR at z;exact⟨mw (by have:=z.1;omega),z.2⟩⟩
 | .lst es,X,S,E,g,e,h=>by
  sleep 1
  refine PE.imp (EU (PA.bX (rl es g h))) λU H Q q=>⟨_,q,λx H1 z=>by unfold BR at z;exact⟨mw (by have:=z.1;omega),z.2⟩⟩
 | .ix a i,X,S,E,g,e,h=>by
  sleep 1
  simp only[nb]at h;have hr:HX X (qK G.R.K):=g.hK▸sJ g.un;exact IJ hr (sE a g h.1.1) (sE i g h.1.2) (se h.2)
 | .sl a lo hi,X,S,E,g,e,h=>by
  sleep 3
  simp only[nb]at h;have hr:IW X (C9 G.R.K):=g.hK▸E6;exact wm hr (sE a g h.1.1) (sO lo g h.1.2) (sO hi g h.2)
 | .fld a f,X,S,E,g,e,h=>by
  sleep 1
  simp only[nb,decide_eq_true_eq]at h;obtain⟨⟨ha,rfl⟩,hn⟩:=h;intro Y s U H Q I q;have q':wE G a U H (λx H1=>rV G f x H1 Q) (E U):=q;refine By (aY hn _ _ _) (aA (sE a g ha Y s U H _ I q') λu s1 ⟨x,H1,I1,rx,qf⟩=>?_);unfold rV at qf;obtain⟨a,i,fs,v,ex,ea,hna,l,q⟩:=qf;subst ex;obtain rfl:u=Value.ref a:=rx;have n:=g.tab.na i f hna;rcases ea with⟨ho,dx,ea⟩|⟨ho,dx,fr,ea⟩
  .exact rX I1 ea (g.tab.oc i ho).1 n l λu' s' J rv=>⟨v,H1,J,rv,q⟩
  .exact vm I1 ea (g.tab.xc i ho).1 n l λu' s' J rv=>⟨v,H1,J,rv,q⟩
 | .call f es,X,S,E,g,e,h=>by
  sleep 3
  rename_i es' pos _ xn p1 _;simp only[nb,decide_eq_true_eq]at h;obtain⟨⟨h1,h2⟩,h3⟩:=h;obtain⟨hg,hdb⟩:=g.glob h1;obtain⟨hm,hk,d,hd⟩:=g.tab.gfn _ _ (g.hT▸h2);obtain⟨fd,F,B⟩:=(g.fns f d hd).fact;obtain⟨ds,hb,hv⟩:∃ ds,Binds X.K fd d.ps ds/\Vals (dflt G f es.len) ds:=by
   unfold dflt;rw[hd];exact B _
  intro Y s U H Q I q;obtain⟨hc,q⟩:=(show G.cm=true/\wEs G es U H (λvs H1=>G.Ψ f (vs++dflt G f es.len) H1 Q (E U)) (E U) from q);have hr:bE k X.A:=(g.room hc).mono (Nat.le_succ _);cases es' with
  |nil=>
   cases es with
   |nil=>exact yK F hr hg hm hk hb hv g.pass hdb Y s U H Q I q
   |cons _ _=>cases(show false=true from h3)
  |cons e0 er=>
   have PAs:=rl es g h3;obtain⟨ns,x0,xr,rfl,h4⟩:=bq h3;exact A0 F hr hg hm hk hb hv g.pass PAs hdb (af ns) (aS h4 _ _) Y s U H Q I q
 | .meth a m es,X,S,E,g,e,h=>by
  sleep 3
  rename_i es' pos _ a' m' apos _;simp only[nb,decide_eq_true_eq]at h;obtain⟨⟨⟨⟨⟨ha,rfl⟩,h3⟩,h4⟩,h5⟩,h6⟩:=h;intro Y s U H Q I q;obtain⟨hc,q⟩:=(show G.cm=true/\_ from q);refine yE (n:=es.len+1) g hc (sE a g ha) (rl es g h3) (λz U H R hr=>?_) (λe r z=>?_) (λe r z=>?_) (hJ h4 (nX h3 h6 _ _) h5) Y s U H Q I q
  .subst z;cases es with
   |nil=>exact hr
   |cons _ _=>cases(show false=true from h3)
  .subst z;exact af (bq h3).1
  .subst z;have PAs:=rl es g h3;obtain⟨ns,x0,xr,rfl,h4⟩:=bq h3;exact aS h4 _ _
 | .lm m a es,X,S,E,g,e,h=>by
  sleep 3
  rename_i es' pos _ a' m' apos _;simp only[nb,decide_eq_true_eq]at h;obtain⟨⟨⟨⟨⟨ha,rfl⟩,h3⟩,h4⟩,h5⟩,h6⟩:=h;cases es' with
  |nil=>
   cases es with
   |nil=>exact PE.imp (D8 PySem.F.plainAttrs_list (um m) (C4 m) (CA m) (PE.bX (sE a g ha)) (aY h4 _ _ _) h5) λU H Q q=>⟨_,q,λx H1 z=>by
     obtain⟨p,xs0,ex,hp,q⟩:=z;subst ex;obtain⟨xs,h1,h2⟩:=q;exact⟨.inl ⟨rfl,xs0,bj.of hp⟩,p,xs,rfl,h1,h2⟩⟩
   |cons _ _=>cases(show false=true from h3)
  |cons e0 er=>
   have PAs:=rl es g h3;obtain⟨ns,x0,xr,rfl,h7⟩:=bq h3;exact PE.imp (Cs PySem.F.plainAttrs_list (um m) (C4 m) (CA m) (PE.bX (sE a g ha)) (PA.bX PAs) (aY h4 _ _ _) (sr h3 h6 _ _) h5 (af ns) (aS h7 _ _)) λU H Q q=>⟨_,q,λx H1 z=>by
     obtain⟨p,xs0,ex,hp,q⟩:=z;subst ex;exact⟨.inl ⟨rfl,xs0,bj.of hp⟩,_,q,λvs H2 ⟨xs,h1,h2⟩=>⟨p,xs,rfl,h1,h2⟩⟩⟩
 | .dget a k d,X,S,E,g,e,h=>by
  sleep 4
  simp only[nb,decide_eq_true_eq]at h;obtain⟨⟨⟨⟨⟨⟨⟨ha,rfl⟩,h3⟩,n1⟩,h6⟩,n2⟩,h4⟩,h5⟩:=h;exact PE.imp (Ef (PE.bX (sE a g ha)) (gT (PE.bX (sE k g h3)) (gT (PE.bX (sE d g h6)) dr n2) n1) (aY h4 _ _ _) (Bl h3 n1 h6 n2 _ _) h5 (af n1) (by rw[af n2];rfl)) λU H Q q=>⟨_,q,λx H1 z=>by
   obtain⟨p,kvs0,ex,hp,q⟩:=z;exact⟨p,kvs0,ex,hp,_,q,λy H2 z=>⟨_,z,λw H3 z=>by
    unfold Ai at z;obtain⟨kvs,k,e1,e2,q⟩:=z;subst e2;exact⟨kvs,k,w,rfl,e1,q⟩⟩⟩⟩
 | .rev a b,X,S,E,g,e,h=>by cases(show false=true from h)
 | .lix a b,X,S,E,g,e,h=>by
  sleep 4
  simp only[nb,decide_eq_true_eq]at h;obtain⟨⟨⟨⟨⟨ha,rfl⟩,h3⟩,n1⟩,h4⟩,h5⟩:=h;exact PE.imp (Cs PySem.F.plainAttrs_list PySem.F.slot_list_index rfl (zG g.un) (PE.bX (sE a g ha)) (gT (PE.bX (sE b g h3)) dr n1) (aY h4 _ _ _) (Aw h3 n1 _ _) h5 (af n1) rfl) λU H Q q=>⟨_,q,λx H1 z=>by
   obtain⟨p,xs0,ex,hp,q⟩:=z;subst ex;exact⟨.inl ⟨rfl,xs0,bj.of hp⟩,_,q,λy H2 z=>⟨p,y,rfl,rfl,g.hK▸z⟩⟩⟩
 | .make c es,X,S,E,g,e,h=>by
  sleep 3
  rename_i es' pos _ xn p1 _;simp only[nb,decide_eq_true_eq]at h;obtain⟨⟨h1,h2⟩,h3⟩:=h;obtain⟨hg,hdb⟩:=g.glob h1;have hm:=g.tab.gcl _ _ (g.hT▸h2);intro Y s U H Q I q
  conv at q=>whnf
  obtain⟨hc,q⟩:=q
  split at q
  .obtain⟨h0,q⟩:=q;cases es' with
   |nil=>
    cases es with
    |nil=>exact absurd q.1 (by decide)
    |cons _ _=>cases(show false=true from h3)
   |cons e0 er=>
    have PAs:=rl es g h3;obtain⟨ns,x0,xr,rfl,h4⟩:=bq h3;exact xJ (g.tab.ini0 c h0) hg hm PAs hdb (af ns) (aS h4 _ _) Y s U H Q I q
  .rename_i f hf;obtain⟨⟨d,hd⟩,hmk⟩:=g.tab.ini c f hf;obtain⟨fd,F,B⟩:=(g.fns f d hd).fact;obtain⟨ds,hb,hv⟩:∃ ds,Binds X.K fd d.ps ds/\Vals (dflt G f (es.len+1)) ds:=by
    unfold dflt;rw[hd];exact B _
   have hr:=g.room hc
   split at q
   .rename_i hx;rw[if_pos hx]at hmk;cases es' with
    |nil=>
     cases es with
     |nil=>exact uX hmk F hr hg hm hb hv g.pass hdb Y s U H Q I q
     |cons _ _=>cases(show false=true from h3)
    |cons e0 er=>
     have PAs:=rl es g h3;obtain⟨ns,x0,xr,rfl,h4⟩:=bq h3;exact xM hmk F hr hg hm hb hv g.pass PAs hdb (af ns) (aS h4 _ _) Y s U H Q I q
   .rename_i hx;rw[if_neg hx]at hmk;cases es' with
    |nil=>
     cases es with
     |nil=>exact x8 hmk F hr hg hm hb hv g.pass hdb Y s U H Q I q
     |cons _ _=>cases(show false=true from h3)
    |cons e0 er=>
     have PAs:=rl es g h3;obtain⟨ns,x0,xr,rfl,h4⟩:=bq h3;exact Bg hmk F hr hg hm hb hv g.pass PAs hdb (af ns) (aS h4 _ _) Y s U H Q I q
 | .bini es,X,S,E,g,e,h=>by
  sleep 4
  rename_i es' pos _ mm p2 _ xn p1 _;simp only[nb,decide_eq_true_eq]at h;obtain⟨⟨⟨⟨⟨h1,rfl⟩,h2⟩,h3⟩,h4⟩,h5⟩:=h;obtain⟨hg,hdb⟩:=g.glob h1;obtain⟨B,hm,hB⟩:=g.tab.gbi _ (g.hT▸h2);cases es' with
  |nil=>
   cases es with
   |nil=>cases h4
   |cons _ _=>cases(show false=true from h3)
  |cons e0 er=>
   have PAs:=rl es g h3;obtain⟨ns,x0,xr,rfl,h7⟩:=bq h3;refine PE.imp (En hB hg hm (PA.bX PAs) hdb (af ns) (aS h7 _ _) (hJ (o:=.Name _ _) rfl (nX h3 (by rw[h4];decide) _ _) h5)) λU H Q q=>⟨_,q,λvs H1 z=>?_⟩
   obtain⟨a,i,dx,fs,fr,v,ev,ea,hi,q⟩:=z;exact⟨a,_,dx,fs,fr,v,ev,ea,(g.tab.xc i hi).1,q⟩
 | .cini c es,X,S,E,g,e,h=>by
  sleep 4
  rename_i es' pos _ mm p2 _ xn p1 _;simp only[nb,decide_eq_true_eq]at h;obtain⟨⟨⟨⟨⟨⟨h1,h2⟩,rfl⟩,h3⟩,h4⟩,h6⟩,h5⟩:=h;obtain⟨hg,hdb⟩:=g.glob h1;have hm:=g.tab.gcl _ _ (g.hT▸h2);intro Y s U H Q I q;obtain⟨hc,q⟩:=(show G.cm=true/\(match G.T.cin.lookup c with|some f=>wEs G es U H (λvs H1=>G.Ψ f (vs++dflt G f es.len) H1 Q (E U)) (E U)|none=>False) from q)
  split at q
  .rename_i f hf;obtain⟨hC,d,hd⟩:=g.tab.cin _ _ hf;obtain⟨fd,F,B⟩:=(g.fns f d hd).fact;obtain⟨ds,hb,hv⟩:∃ ds,Binds X.K fd d.ps ds/\Vals (dflt G f es.len) ds:=by
    unfold dflt;rw[hd];exact B _
   have hr:bE k X.A:=(g.room hc).mono (Nat.le_succ _);cases es' with
   |nil=>
    cases es with
    |nil=>cases h6
    |cons _ _=>cases(show false=true from h3)
   |cons e0 er=>
    have PAs:=rl es g h3;obtain⟨ns,x0,xr,rfl,h7⟩:=bq h3;exact EI hC F hr hg hm hb hv g.pass PAs hdb (af ns) (aS h7 _ _) (hJ (o:=.Name _ _) rfl (nX h3 h4 _ _) h5) Y s U H Q I q
  .exact q.elim
 | .bf b es,X,S,E,g,e,h=>by
  sleep 3
  rename_i es' pos _ xn p1 _;simp only[nb,decide_eq_true_eq]at h;obtain⟨⟨⟨⟨h1,rfl⟩,h2⟩,h3⟩,h4⟩:=h;obtain⟨hg,hdb⟩:=g.glob h1;obtain⟨hm,hn⟩:=g.tab.gbl _ (g.hT▸h2);cases es' with
  |nil=>
   cases es with
   |nil=>exact absurd h4 (by decide)
   |cons _ _=>cases(show false=true from h3)
  |cons e0 er=>
   have PAs:=rl es g h3;obtain⟨ns,x0,xr,rfl,h7⟩:=bq h3;have hb:=Af b;have hk:=Hr g b;have key:∀ {v:Value},yy b=v->(∃ i,v=.builtin i)\/(∃ i,v=.type i):=by
    intro v hv;subst hv;cases b<;>first|exact .inl ⟨_,rfl⟩|exact .inr ⟨_,rfl⟩
   rcases key rfl with⟨i,hi⟩|⟨i,hi⟩
   .rw[hi]at hb hk;exact qb hk hg hm hb PAs hn hdb (af ns) (aS h7 _ _)
   .rw[hi]at hb hk;exact vL hk hg hm hb PAs hn hdb (af ns) (aS h7 _ _)
 | .isi a c,X,S,E,g,e,h=>by
  sleep 4
  rename_i pos _ xn p1 _ _ a' c';simp only[nb,decide_eq_true_eq]at h;obtain⟨⟨⟨⟨h1,rfl⟩,h2⟩,h3⟩,h4⟩:=h;obtain⟨hg,hdb⟩:=g.glob h1;obtain⟨hm,hn⟩:=g.tab.gbl _ (g.hT▸h2);have n1:notStar a'=true:=by
   cases a'<;>first|rfl|(cases a<;>cases(show false=true from h3))
  have n2:notStar c'=true:=by
   cases c'<;>first|rfl|(cases c<;>simp[B7]at h4)
  refine PE.imp (qb (DM g c) hg hm Es (gT (PE.bX (sE a g h3)) (gT (GJ g h4) dr n2) n1) hn hdb (af n1) ?_) λU H Q q=>⟨_,q,λx H1 z=>⟨x,rfl,z⟩⟩
  rw[af n2]
  rfl
 | .lc elt sel it,X,S,E,g,e,h=>by
  sleep 2
  split at h
  iterate 3 (split at h;rotate_left;cases h)
  simp only[nb]at h;obtain⟨⟨⟨h1,h2⟩,h3⟩,h4⟩:=h;intro Y s U H Q I q;obtain⟨hc,q⟩:=(show G.cm=true/\wI G it U H (λJ H1=>wa (λσ' H' Q'=>wE G elt σ' H' Q' (λ_ _=>False)) J (none::gu U sel) H1 Q) (E U) from q);rw[xW]at q;obtain⟨cl,C⟩:=cn g I.ok h1;exact wV (g.cm hc) C (sI it g h2) (λs H fp=>sE elt (g.comp C s H fp) h3) (bQ h4 _) Y s U H Q I q
 | .lci elt c sel it,X,S,E,g,e,h=>by cases(show false=true from h)
 | .lct elt n sel it,X,S,E,g,e,h=>by
  sleep 2
  split at h
  iterate 3 (split at h;rotate_left;cases h)
  simp only[nb,decide_eq_true_eq]at h;obtain⟨⟨⟨⟨⟨h1,h5⟩,h6⟩,h2⟩,h3⟩,h4⟩:=h;intro Y s U H Q I q;obtain⟨hc,q⟩:=(show G.cm=true/\wI G it U H (λJ H1=>LCt G.R.K n (λσ' H' Q'=>wE G elt σ' H' Q' (λ_ _=>False)) J (sn n none++gu U sel) H1 Q) (E U) from q);rw[xT,<-uc h6]at q;obtain⟨cl,C⟩:=cn g I.ok h1;exact md (g.cm hc) C (sI it g h2) (λs H fp=>tD (g.comp C s H fp) hc h5) (λs H fp=>jH) (λs H fp=>sE elt (g.comp C s H fp) h3) (bQ h4 _) Y s U H Q I q
 | .lcu elt c n sel it,X,S,E,g,e,h=>by cases(show false=true from h)
 | .dnew,X,S,E,g,e,h=>by cases(show false=true from h)
 | .up a,X,S,E,g,e,h=>by cases(show false=true from h)
 | .isiT a cs,X,S,E,g,e,h=>by cases(show false=true from h)
 | .mk0 c,X,S,E,g,e,h=>by
  sleep 4
  simp only[nb,decide_eq_true_eq]at h;obtain⟨⟨h1,h2⟩,h3⟩:=h;obtain⟨hg,hdb⟩:=g.glob h1;refine PE.imp (xR (g.tab.inip c (g.hT▸h3)) hg (g.tab.gcl _ _ (g.hT▸h2)) hdb) λU H Q q=>?_
  have q':wZ (G.R.cad c) H Q:=q;unfold wZ at q';exact q'
 | .vals tp a,X,S,E,g,e,h=>by
  sleep 8
  simp only[nb,decide_eq_true_eq]at h;obtain⟨⟨⟨⟨⟨⟨h1,rfl⟩,h2⟩,h3⟩,rfl⟩,h4⟩,h5⟩:=h;obtain⟨hg,hdb⟩:=g.glob h1;obtain⟨hm,hn⟩:=g.tab.gbl _ (g.hT▸h2);intro Y s U H Q I q;obtain⟨hc,q⟩:=(show G.cm=true/\wE G a U H (λx H1=>pW tp x H1 Q) (E U) from q);refine AB tp (g.cm hc) hg hm (PE.bX (sE a g h3)) (aY h4 _ _ _) h5 Y s U H Q I ⟨_,q,λx H1 z=>?_⟩;unfold pW at z;exact z
 | .disp ks es,X,S,E,g,e,h=>by
  sleep 1
  simp only[nb,decide_eq_true_eq]at h;obtain⟨⟨⟨⟨h1,h2⟩,h3⟩,h4⟩,h5⟩:=h;intro Y s U H Q I q;have hk:=pO h1;have hv:=wx h2;refine BM (Kt es g h1 h2 h3) (oO h1) nofun (λz=>by rw[z]at hk;simp at hk;omega) nofun Y s U H Q I λp hp=>?_
  refine⟨_,q p hp,λxs H2 hl z=>?_⟩;unfold lR at z;exact⟨z.1,DL ks xs,wK,by have:=t5 (ks:=ks) (xs:=xs);omega,z.2⟩
 | .dzip a b,X,S,E,g,e,h=>by
  sleep 8
  simp only[nb,decide_eq_true_eq]at h;obtain⟨⟨⟨⟨⟨⟨⟨⟨⟨h1,rfl⟩,h2⟩,h3⟩,rfl⟩,h4⟩,h5⟩,h6⟩,n1⟩,n2⟩:=h;obtain⟨hg,hdb⟩:=g.glob h1;obtain⟨hm,hn⟩:=g.tab.gbl _ (g.hT▸h2);obtain⟨hg',hdb'⟩:=g.glob h3;obtain⟨hm',hn'⟩:=g.tab.gbl _ (g.hT▸h4);intro Y s U H Q I q;obtain⟨hc,q⟩:=(show G.cm=true/\wE G a U H (λx H1=>wE G b U H1 (λy H2=>GX G.R.K x y H2 Q) (E U)) (E U) from q);refine Bb (g.cm hc) hg hm hg' hm' (gT (PE.bX (sE a g h5)) (gT (PE.bX (sE b g h6)) dr n2) n1) (af n1) (by rw[af n2];rfl) Y s U H Q I ⟨_,q,λx H1 z=>⟨_,z,λy H2 z=>?_⟩⟩;unfold GX at z;exact⟨_,_,rfl,g.hK▸z⟩
termination_by structural x=>x
theorem sI:∀ (x:CY){X:Cx}{S:Sn}{E:St->XK},Gd X G S k E->∀ {t e:Expr},mI S x t e=true->PI X t e (λU H R=>wI G x U H R (E U))
 | .rng1 a,X,S,E,g,t,e,h=>by
  sleep 4
  simp only[nb,decide_eq_true_eq]at h;obtain⟨⟨⟨⟨h1,rfl⟩,h2⟩,h3⟩,n1⟩:=h;obtain⟨hg,hdb⟩:=g.glob h1;obtain⟨hm,hn⟩:=g.tab.gbl _ (g.hT▸h2);intro Y s U H R I q;refine uZ hg hm (gT (PE.bX (sE a g h3)) dr n1) (af n1) Y s U H R I ⟨_,q,λx H1 z=>?_⟩
  split at z
  .exact⟨_,rfl,z.1,z.2.1,z.2.2⟩
  .exact z.elim
 | .rng2 a b,X,S,E,g,t,e,h=>by
  sleep 4
  simp only[nb,decide_eq_true_eq]at h;obtain⟨⟨⟨⟨⟨⟨h1,rfl⟩,h2⟩,h3⟩,h4⟩,n1⟩,n2⟩:=h;obtain⟨hg,hdb⟩:=g.glob h1;obtain⟨hm,hn⟩:=g.tab.gbl _ (g.hT▸h2);intro Y s U H R I q;refine vJ hg hm (gT (PE.bX (sE a g h3)) (gT (PE.bX (sE b g h4)) dr n2) n1) (by rw[af n1,af n2];rfl) (by rw[af n2];rfl) Y s U H R I ⟨_,q,λx H1 z=>⟨_,z,λy H2 z=>?_⟩⟩
  split at z
  .exact⟨_,_,rfl,z.1,z.2⟩
  .exact z.elim
 | .rng3 a b c,X,S,E,g,t,e,h=>by cases(show false=true from h)
 | .enm a,X,S,E,g,t,e,h=>by
  sleep 4
  simp only[nb,decide_eq_true_eq]at h;obtain⟨⟨⟨⟨⟨h1,rfl⟩,h2⟩,h3⟩,n1⟩,h5⟩:=h;obtain⟨hg,hdb⟩:=g.glob h1;obtain⟨hm,hn⟩:=g.tab.gbl _ (g.hT▸h2)
  split at h5
  .intro Y s U H R I q;refine BA hg hm (gT (PE.bX (sE a g h3)) dr n1) (af n1) Y s U H R I ⟨_,q,λx H1 z=>?_⟩
   split at z
   .unfold BP at z;exact⟨_,rfl,z.1,z.2⟩
   .exact z.elim
  .cases h5
 | .enf a,X,S,E,g,t,e,h=>by cases(show false=true from h)
 | .seq a,X,S,E,g,t,e,h=>by
  conv at h=>lhs;whnf
  intro Y s U H R I q;have q':wE G a U H (λx H1=>match x with| .ref p=>sj G.R.K p H1 R|_=>False) (E U):=q;rw[g.hK]at q';refine aA (sE a g h Y s U H _ I q') λv s1 ⟨x,H1,I1,r1,z⟩=>?_
  dsimp only at z
  split at z
  .unfold sj at z;rcases z with⟨⟨xs,hx⟩,z⟩|⟨⟨xs,hx⟩,z⟩
   .exact uV I1 r1 hx z
   .exact wU I1 r1 hx z
  .exact z.elim
 | .zip a b,X,S,E,g,t,e,h=>by
  sleep 4
  simp only[nb,decide_eq_true_eq]at h;obtain⟨⟨⟨⟨⟨⟨⟨h1,rfl⟩,h2⟩,h3⟩,h4⟩,n1⟩,n2⟩,h5⟩:=h;obtain⟨hg,hdb⟩:=g.glob h1;obtain⟨hm,hn⟩:=g.tab.gbl _ (g.hT▸h2)
  split at h5
  .intro Y s U H R I q;refine DY hg hm (gT (PE.bX (sE a g h3)) (gT (PE.bX (sE b g h4)) dr n2) n1) (af n1) (by rw[af n2];rfl) Y s U H R I ⟨_,q,λx H1 z=>⟨_,z,λy H2 z=>?_⟩⟩;unfold A8 at z;exact⟨_,_,rfl,g.hK▸z⟩
  .cases h5
 | .zip3 a b c,X,S,E,g,t,e,h=>by cases(show false=true from h)
termination_by structural x=>x
theorem sO:∀ (x:IZ){X:Cx}{S:Sn}{E:St->XK},Gd X G S k E->∀ {e:Option Expr},mO S x e=true->PO X e (λU H Q=>wO G x U H Q (E U))
 | .no,X,S,E,g,none,h=>Bs
 | .no,X,S,E,g,some _,h=>by cases(show false=true from h)
 | .yes x,X,S,E,g,none,h=>by cases(show false=true from h)
 | .yes x,X,S,E,g,some e,h=>by
  conv at h=>lhs;whnf
  intro Y s U H Q I q;refine Cm (PE.bX (sE x g h)) Y s U H Q I ⟨_,q,λy H1 z=>?_⟩
  split at z
  .exact⟨_,rfl,z⟩
  .exact z.elim
termination_by structural x=>x
theorem sT:∀ (x:Tx){X:Cx}{S:Sn}{E:St->XK},Gd X G S k E->∀ {e:Expr},mT S x e=true->PT X e (λU H Q=>wT G x U H Q (E U))
 | .not a,X,S,E,g,e,h=>by
  sleep 2
  exact Fh (sT a g h)
 | .and a b,X,S,E,g,e,h=>by
  sleep 3
  simp only[nb]at h;exact PT.imp (FT (PT.bX (sT a g h.1)) (zD (sT b g h.2))).pt λU H Q q=>⟨_,q,λk H1 z=>by rwa [dv]at z⟩
 | .or a b,X,S,E,g,e,h=>by
  sleep 3
  simp only[nb]at h;exact PT.imp (GW (PT.bX (sT a g h.1)) (xB (sT b g h.2))).pt λU H Q q=>⟨_,q,λk H1 z=>by rwa [dv]at z⟩
 | .cmp op a b,X,S,E,g,e,h=>by
  sleep 3
  simp only[nb,decide_eq_true_eq]at h;obtain⟨⟨⟨rfl,ha⟩,hb⟩,hn⟩:=h;refine PT.imp (AD (cU.bX (g.cmp op)) (PE.bX (sE a g ha)) (PE.bX (sE b g hb)) (eA hn _)) λU H Q q=>⟨_,q,λx H1 q1=>⟨_,q1,λy H2 q2=>⟨_,q2,λz H3 q3=>?_⟩⟩⟩
  split at q3
  .exact⟨_,rfl,q3⟩
  .exact q3.elim
 | .cmp2 o1 o2 a b c,X,S,E,g,e,h=>by
  sleep 3
  simp only[nb,decide_eq_true_eq]at h;obtain⟨⟨⟨⟨⟨rfl,rfl⟩,ha⟩,hb⟩,hc⟩,hn⟩:=h;refine PT.imp (xi (cU.bX (g.cmp o1)) (cU.bX (g.cmp o2)) (PE.bX (sE a g ha)) (PE.bX (sE b g hb)) (PE.bX (sE c g hc)) (kN hn)) λU H Q q=>⟨_,q,λx H1 q1=>⟨_,q1,λy H2 q2=>⟨_,q2,λz H3 q3=>?_⟩⟩⟩
  split at q3
  .refine⟨_,rfl,?_⟩;rw[dv]at q3
   split at q3
   .rename_i hk;rw[if_pos hk];refine⟨_,q3,λw H4 q4=>⟨_,q4,λz H5 q5=>?_⟩⟩
    split at q5
    .exact⟨_,rfl,q5⟩
    .exact q5.elim
   .rename_i hk;rw[if_neg hk];exact⟨_,rfl,q3⟩
  .exact q3.elim
 | .val x,X,S,E,g,e,h=>by
  have h:(mE S x e&&plainT e)=true:=h;simp only[nb]at h;refine PT.imp (zw (PE.bX (sE x g h.1)) (plainT_ok h.2 _)) λU H Q q=>⟨_,q,λy H1 z=>?_⟩
  exact g.hK▸DP z
termination_by structural x=>x
theorem Kt:∀ (x:fU){X:Cx}{S:Sn}{E:St->XK},Gd X G S k E->∀ {ks:List Str}{keys:List (Option Expr)}{e:List Expr}{pos:Pos},nZ ks keys=true->hG S x e=true->x.len=ks.length->PQ X pos keys e (λU H R=>∃ Q,wEs G x U H Q (E U)/\∀ xs H1,xs.length=x.len->Q xs H1->R (IM ks xs) H1)
 | .nil,X,S,E,g,ks,keys,[],pos,h1,h,hl=>by
  obtain rfl:ks=[]:=List.eq_nil_of_length_eq_zero hl.symm;rw[kC h1];exact λY s U H R I ⟨Q,q,i⟩=>FL Y s U H R I (i [] H rfl q)
 | .nil,X,S,E,g,_,_,_::_,pos,h1,h,hl=>by cases(show false=true from h)
 | .cons x xs,X,S,E,g,_,_,[],pos,h1,h,hl=>by cases(show false=true from h)
 | .cons x xs,X,S,E,g,[],keys,e::es,pos,h1,h,hl=>by cases hl
 | .cons x xs,X,S,E,g,c::ks,keys,e::es,pos,h1,h,hl=>by
  have h:(mE S x e&&notStar e&&hG S xs es)=true:=h;simp only[nb]at h;obtain⟨j,p,r,rfl,h2⟩:=hR h1;intro Y s U H R I ⟨Q,q,i⟩;refine Bp zl (PE.bX (sE x g h.1.1)) (Kt xs g h2 h.2 (Nat.succ.inj hl)) Y s U H R I ?_;exact⟨_,q,λy H2 z=>⟨_,z,λys H3 hy w=>i (y::ys) H3 (congrArg Nat.succ hy) w⟩⟩
termination_by structural x=>x
theorem rl:∀ (x:fU){X:Cx}{S:Sn}{E:St->XK},Gd X G S k E->∀ {e:List Expr},hG S x e=true->PA X e (λU H Q=>wEs G x U H Q (E U))
 | .nil,X,S,E,g,[],h=>dr
 | .nil,X,S,E,g,_::_,h=>by cases(show false=true from h)
 | .cons x xs,X,S,E,g,[],h=>by cases(show false=true from h)
 | .cons x xs,X,S,E,g,e::es,h=>by
  have h:(mE S x e&&notStar e&&hG S xs es)=true:=h;simp only[nb]at h;exact gT (sE x g h.1.1) (rl xs g h.2) h.1.2
termination_by structural x=>x
end
end
end L3
namespace L2
open PySem PySem.Spec PyProof.Rows
variable {scope:Scope}{cl:List (Str×Addr)}{fr:List Str}{sel:List Nat}{s:Shared}
section
variable {X:Cx}
def f9 {elt iter tgt:Expr}{ifs:List Expr}{xs:List Str}{y:Str}{py pos spos:Pos}{wi:TI}{tg:TG}{tc:TT}{te:TE}{ni:Nat}(hc:X.calm=true)(S:bB X scope cl xs fr sel)(hi:PI X tgt iter wi)
  (hg:∀ (s:Shared) (H:Hp) (fp:List Addr),PG (fE X scope cl (xs++fr) s H fp) tgt tg) (ht:∀ (s:Shared) (H:Hp) (fp:List Addr),Jc (fE X scope cl (xs++fr) s H fp) ifs tc)
  (he:∀ (s:Shared) (H:Hp) (fp:List Addr),PE (fE X scope cl (xs++fr) s H fp) elt te) (hs:∀ x,foldedSetIterable iter X.env x=pure x) (hN:X.N.Nodup) (hni:X.N[ni]? =some y) (hy:X.env.scope.names.lookup y=some .local)
  (hsw:swapsWith (.ListComp elt [⟨tgt,iter,ifs,0⟩] scope pos) (some (.Name y py)) spos.line X.env=pure true):PS X (.Assign [.Name y py] (.ListComp elt [⟨tgt,iter,ifs,0⟩] scope pos) spos) (λD U H=>Hx wi tg tc te xs sel U H λv H1=>D.nx (U.set ni (some v)) H1):=by
 intro Y s U H DD I h;rw[exec_Assign_Name_used _ _ _ _ hsw];refine ad (wpAny_standAt (ad ?_));show wpAny _ _ (do let _ <-comprehension (.ListComp elt [⟨tgt,iter,ifs,0⟩] scope pos) scope X.env _ (newList []) false (eval iter X.env) (some (assign (.Name y py) X.env))) _ _ s;refine ad (wpAny_mono (wpAny_comprehension_free (use:=some (assign (.Name y py) X.env)) (Q:=λ_ s'=>SP X Y DD .next s') rfl hs S.clos S.kind S.names ?_) (λ_ s' hq=>am (am hq)) λ_ _ e=>e);refine aA (hi Y s U H _ I h) λv s1 h1=>aA h1 λitv s2 h2=>?_
 obtain⟨it,fp,tn,J,H2,e,I2,T,oy,f2,h2⟩:=h2;subst e;refine wpAny_newObj_type ?_;have hD:H2 s2.heap.objs.size=none:=I2.hok.fresh (pi _);have I3:Inv X Y U (upd H2 s2.heap.objs.size (.lst [])) { s2 with heap:=s2.heap.push { cls:=.type "list",dict:=none,data:=.seq ([]:List Value).toArray } }:=
  I2.laid (t':=s2.toks) (λb u e=>sK _ e) (pi _) ⟨Nat.zero_le _,[],0,.nil,ul _ rfl⟩
 have fo2:∀ b ∈ fp,b<s2.heap.objs.size:=λb hb=>by
  obtain⟨o,ho,_⟩:=T.obj _ _ oy b hb;exact tz ho
 have f3:∀ b ∈ fp,hX X Y (upd H2 s2.heap.objs.size (.lst [])) b:=λb hb=>⟨by rw[ak (pc (fo2 b hb))];exact(f2 b hb).1,(f2 b hb).2⟩
 have st3:tn 0 (s2.heap.push { cls:=.type "list",dict:=none,data:=.seq ([]:List Value).toArray }):=T.keep _ _ _ oy λb hb o e=>sK _ e
 have fo3:∀ b ∈ fp,b<(s2.heap.push { cls:=.type "list",dict:=none,data:=.seq ([]:List Value).toArray }).objs.size:=λb hb=>by
  rw[Heap.size_push];exact Nat.lt_succ_of_lt (fo2 b hb)
 obtain⟨W,⟨m0,w0⟩,turn⟩:=h2 _ hD;generalize s2.heap.objs.size=D at*;generalize hs3:({ s2 with heap:=s2.heap.push { cls:=.type "list",dict:=none,data:=.seq ([]:List Value).toArray } }:Shared)=s3 at*;have st3':tn 0 s3.heap:=by rw[<-hs3];exact st3
 have fo3':∀ b ∈ fp,b<s3.heap.objs.size:=by rw[<-hs3];exact fo3
 refine wpAny_newFunctionEnv S.nocell (by intro y hy;simp at hy) (λh' hns hsb=>?_) S.kind;have keep:∀ b o,s3.heap.get? b=some o->h'.get? b=some o:=λb o e=>(hsb.2 b (pc (tz e))).trans (sK _ e)
 have I4:=qm (tk:=s3.toks+([]:List (Str×Value)).length) S I3 f3 fo3' hns keep;have st4:tn 0 h':=T.keep _ _ _ st3' λb hb o e=>keep b o e
 have stat:∀ {H':Hp},(∀ b ∈ fp,H' b=none)->∀ b ∈ fp,hX (fE X scope cl (xs++fr) s3 (upd H2 D (.lst [])) fp) (X.pn++Y) H' b:=λ{H'} hn b hb=>
  ⟨hn b hb,pc (fo3' b hb),λz=>(mo.mp (I3.ik b z)).elim (f3 b hb).2.1 (f3 b hb).2.2.1,.inl hb,λy c hy=>(f3 b hb).2.2.2.2.1 y c (S.sub y c hy),λp hp=>(f3 b hb).2.2.2.2.2 p (by simpa[fE] using hp)⟩
 have loop:codeAny (model X.prog X.w) X.A (.compLoop (.ListComp elt [⟨tgt,iter,ifs,0⟩] scope pos) 0 (.ref it) (.ref D) (compEnvC scope cl s3.heap.objs.size X.env))
   (compPost (model X.prog X.w) X.A X.xe (some (assign (.Name y py) X.env)) (λ_ s'=>SP X Y DD .next s') (.ref D) s3.heap.objs.size) { s3 with heap:=h',toks:=s3.toks+([]:List (Str×Value)).length }:=by
  refine codeAny_loop rfl (λn s'=>∃ i σ' H',Inv (fE X scope cl (xs++fr) s3 (upd H2 D (.lst [])) fp) (X.pn++Y) σ' H' s'/\tn i s'.heap/\(∀ b ∈ fp,H' b=none)/\W i n σ' H') (λn s5 hI=>?_) m0 ⟨0,_,_,I4,st4,λb hb=>(f3 b hb).1,w0⟩;show wpAny _ _ ((compTurn (.ListComp elt [⟨tgt,iter,ifs,0⟩] scope pos) 0 (.ref it) (.ref D) (compEnvC scope cl s3.heap.objs.size X.env)).onRaise (λx=>do noteFrame x (compEnvC scope cl s3.heap.objs.size X.env);theTreesLotGoes x)) _ _ s5;refine wpAny_noted ?_;refine tL (ht s3 (upd H2 D (.lst [])) fp).1 ?_;obtain⟨i,σ5,H5,I5,st5,fr5,w5⟩:=hI;rcases turn i n σ5 H5 w5 with⟨stop,q⟩|⟨go,Nn,hNn,step⟩
  .refine aA (T.done (fE X scope cl (xs++fr) s3 (upd H2 D (.lst [])) fp) rfl rfl rfl hc i _ s5 σ5 H5 _ I5 (stat fr5) st5 stop) λr s6 ⟨hr,I6⟩=>?_
   subst hr;obtain⟨m,hn,_⟩:=I6.loc;have J:Inv X Y U H5 s6:=I3.xV (ch:=fp) I6.os I6.base I6.hok I6.bare λb hb=>⟨(f3 b hb).2.2.2.1,(f3 b hb).2.1,(f3 b hb).2.2.2.2.1,(f3 b hb).2.2.2.2.2⟩
   have fC:H5 s3.heap.objs.size=none:=I6.free;have nL:s3.heap.objs.size≠X.env.locals:=Ne.symm (pc I3.lt);have nC:∀ z c,X.env.cells.lookup z=some c->c≠s3.heap.objs.size:=λz c e=>by
    obtain⟨v,o,ho,_⟩:=I3.cell z c e;exact pc (tz ho)
   show wpAny _ _ (assign (.Name y py) X.env (.ref D)) _ _ s6;refine wpAny_assign_Name (mJ J hN hni (.inl hy) (v:=.ref D) rfl (λs7 J7 hsb=>?_) (.inr hy));obtain⟨a,sb,ha⟩:=hsb;have hne:s3.heap.objs.size≠a:=by
    rcases ha with ha|ha
    .rw[ha];exact nL
    .exact Ne.symm (nC _ _ ha)
   refine⟨m,hn.sameBut sb hne,λh'' hs''=>⟨_,H5,?_,q⟩⟩;exact J7.turned (h':=h'') (t':=s7.toks) (it:=s3.heap.objs.size) (λb o hb e=>(hs''.2 b hb).trans e) fC nL (.inr I3.sz) nC λp hp=>pc (tz (I3.pin p hp).1)
  .have fin:∀ {σ8:St}{H10:Hp}{s10:Shared},Inv (fE X scope cl (xs++fr) s3 (upd H2 D (.lst [])) fp) (X.pn++Y) σ8 H10 s10/\tn (i+1) s10.heap/\(∀ b ∈ fp,H10 b=none)->Nn σ8 H10->∃ m',m'<n/\∃ i σ' H',Inv (fE X scope cl (xs++fr) s3 (upd H2 D (.lst [])) fp) (X.pn++Y) σ' H' s10/\tn i s10.heap/\(∀ b ∈ fp,H' b=none)/\W i m' σ' H':=λ⟨I,t,f⟩ nn=>by
    obtain⟨m',hm,w10⟩:=hNn _ _ nn;exact⟨m',hm,i+1,_,_,I,t,f,w10⟩
   refine aA (T.item (fE X scope cl (xs++fr) s3 (upd H2 D (.lst [])) fp) rfl rfl rfl hc i _ s5 σ5 H5 _ I5 (stat fr5) st5 go) λr s6 ⟨u,hr,h6⟩=>?_
   subst hr;refine aA h6 λ_ s7 ⟨xv,H7,I7,r7,y7,st7,fr7⟩=>?_
   have I7':=I7.pinned (stat fr7) (T.obj _ _ st7);refine CG (hg s3 _ fp _ s7 σ5 H7 xv u _ I7' r7 (step xv _ y7)) λ_ s8 ⟨σ8,H8,I8,q8⟩=>?_
   refine CG ((ht s3 _ fp).2 _ s8 σ8 H8 _ I8 q8) λok s9 ⟨H9,I9,q9⟩=>?_
   have back:∀ {H10:Hp}{s10:Shared},Inv (fE X scope cl (xs++fr) s3 (upd H2 D (.lst [])) fp) _ σ8 H10 s10->Inv (fE X scope cl (xs++fr) s3 (upd H2 D (.lst [])) fp) (X.pn++Y) σ8 H10 s10/\tn (i+1) s10.heap/\(∀ b ∈ fp,H10 b=none):=λ{H10 s10} I10=>⟨I10.fc,T.keep _ _ _ st7 λb hb o e=>(I10.pin (b,o) (ii _ (ii _ (bN hb e)))).1,λb hb=>by
    obtain⟨o,e,d⟩:=T.obj _ _ st7 b hb;exact(I10.pin (b,o) (ii _ (ii _ (bN hb e)))).2.1⟩
   refine⟨λek=>?_,λek=>am ⟨rfl,fin (back I9) (q9.2 ek)⟩⟩;refine CG (he s3 _ fp _ s9 _ _ _ I9 (q9.1 ek)) λuv s10 ⟨vv,H10,I10,r10,zs,hz,hzl,n10⟩=>?_
   refine CG (hE (X:=fE X scope cl (xs++fr) s3 (upd H2 D (.lst [])) fp) _ s10 _ H10 (.ref D) [vv] (.ref D) [uv] (λ_ H'=>H'=upd H10 D (.lst (zs++[vv]))) I10 rfl (.cons r10 .nil) ⟨D,zs,vv,rfl,rfl,hz,hzl,rfl⟩) λ_ s11 ⟨_,H11,I11,_,e11⟩=>?_
   subst e11;exact am ⟨rfl,fin (back I11) n10⟩
 exact codeAny_compStart_list loop (T.self _ 0 _ _ _ st4 loop)
def vt {elt iter:Expr}{x y:Str}{px py pos spos:Pos}{wi:TI}{te:TE}{ni:Nat}(hc:X.calm=true)(S:bB X scope cl [x] fr sel)(hi:PI X (.Name x px) iter wi)
  (he:∀ (s:Shared) (H:Hp) (fp:List Addr),PE (fE X scope cl (x::fr) s H fp) elt te) (hs:∀ x,foldedSetIterable iter X.env x=pure x) (hN:X.N.Nodup) (hni:X.N[ni]? =some y) (hy:X.env.scope.names.lookup y=some .local)
  (hsw:swapsWith (.ListComp elt [⟨.Name x px,iter,[],0⟩] scope pos) (some (.Name y py)) spos.line X.env=pure true):PS X (.Assign [.Name y py] (.ListComp elt [⟨.Name x px,iter,[],0⟩] scope pos) spos) (λD U H=>KQ wi te sel U H λv H1=>D.nx (U.set ni (some v)) H1):=λY s U H D I h=>
 f9 hc S hi.up (λs H fp=>rC S) (λ_ _ _=>jH) he hs hN hni hy hsw Y s U H D I ⟨_,h,λ_ _ q=>q.g⟩
section
variable {prog:Program}{w:World}{A:Around}{E:LD}
def mM {it t:Addr}{items:Array Value}(hne:t≠it):∀ (n i:Nat) (s:Shared) (Q:List Value->Shared->Prop),s.heap.IsListIter it t i->s.heap.IsList t items->i+n<=items.size->
  (∀ h',h'.IsListIter it t (i+n)->Heap.SameBut it s.heap h'->Q ((items.toList.drop i).take n) { s with heap:=h' })->wpAny (model prog w) A (draw (.ref it) n) Q E s
 |0,i,s,Q,hit,_,_,hQ=>by
  show wpAny _ _ (pure []) Q E s;exact am (by simpa using hQ s.heap hit (Heap.SameBut.refl ..))
 |n+1,i,s,Q,hit,ht,hle,hQ=>by
  have hlt:i<items.size:=by omega
  show wpAny _ _ (pyNext (.ref it) >>= _) Q E s;refine ad (wpAny_pyNext_list_item hit ht (x:=items[i]) (by simp[hlt]) λh₁ hit₁ hs₁=>?_);refine ad (bd (mM hne n (i+1) _ _ hit₁ (ht.extBut hs₁.extBut hne) nofun λh₂ hit₂ hs₂=>am ?_));have hd:items.toList.drop i=items[i]::items.toList.drop (i+1):=by simp[List.drop_eq_getElem_cons,hlt]
  have:=hQ h₂ (by rw[show i+(n+1)=i+1+n by omega];exact hit₂) (hs₁.trans hs₂);rw[hd,List.take_succ_cons]at this;exact this
def ip {t:Addr}{items:Array Value}{Q:List Value->Shared->Prop}(hh:A.handled=none)(ht:s.heap.IsList t items)(hty:s.TypeIs (.ref t) "list")
  (hQ:∀ h',Heap.ExtBut s.heap.objs.size s.heap h'->Q items.toList { s with heap:=h' }):wpAny (model prog w) A (unpackItems (.ref t) items.size none) Q E s:=by
 have hlt:t≠s.heap.objs.size:=by obtain⟨o,ho,_⟩:=id ht;exact pc (tz ho)
 unfold unpackItems;refine ad ?_
 .unfold notIterableAtAll;refine ad (wpAny_specialOf hty PySem.F.slot_list_iter.lookup ?_);refine am ?_;simp only[Bool.false_eq_true,if_false];refine ad (bd (wpAny_pyIter_list ht ?_));refine ad (bd (mM hlt items.size 0 _ _ ⟨_,ul _ rfl,rfl,rfl⟩ (ht.push _) nofun λh₁ hit₁ hs₁=>?_));have hall:List.take items.size (List.drop 0 items.toList)=items.toList:=by
   rw[drop_zero];exact take_of_length_le (by simp)
  rw[hall];rw[if_neg (by simp)];have ht₁:h₁.IsList t items:=(ht.push _).extBut hs₁.extBut hlt;refine ad (bd (wpAny_pyNext_list_end hh hit₁ ht₁ (by simp) λh₂ he₂=>?_));simp only[Option.isSome_none,Bool.false_eq_true,if_false];refine am (hQ h₂ λb o hb e=>he₂ b o hb (hs₁.extBut b o hb (sK _ e)))
end
def Fw {es:List Expr}{k:Nat}{pos:Pos}{t:AS}{n:Nat}(hc:X.calm=true)(h:FW X es t)
  (hn:(assignEach es X.env).length=n) (hst:(assignEach es X.env).findIdx? (·.1)=none){Y:LF}{U:St}{H:Hp}{a:Addr}{u:Value}{xs:List V}{Q:St->Hp->Prop}(I:Inv X Y U H s) (r:RelV (.ref a) u)
  (hq:bj X.K H a xs) (hl:xs.length=n) (hw:t xs U H Q):wpAny (model X.prog X.w) X.A (assign (.Tuple es k pos) X.env u) (λ_ s'=>∃ σ' H',Inv X Y σ' H' s'/\Q σ' H') X.xe s:=by
 cases r;obtain⟨its,rv,p,hz⟩:=I.list hq;rw[assign_Tuple];refine ad (wpAny_standAt ?_);unfold unpack;have e1:(assignEach es X.env).length=its.toArray.size:=by
  rw[hn,<-hl];simp[rv.length]
 rw[e1,hst];refine ad (bd (ip (I.ok.hd hc) p.isList p.isList.typeIs λh' hx=>?_));have I1:Inv X Y U H { s with heap:=h' }:=I.kept (t':=s.toks) λb o e=>hx b o (pc (tz e)) e
 exact h Y _ U H xs _ Q I1 (by simpa using rv) hw
end
end L2
namespace L3
open PySem PySem.Spec L2
set_option maxHeartbeats 2000000
abbrev CQ:Expr->Bool
 | .Tuple ..=>false
 |_=>true
abbrev v8 (S:Sn):List Nat->List Expr->Bool
 | [],[]=>true
 |i::is,.Name x _::r=>S.loc i x&&v8 S is r
 |_,_=>false
abbrev Jz (S:Sn):IT->Expr->Bool
 | .nm i,e=>match e with| .Name x _=>S.loc i x|_=>false
 | .tp is,e=>match e with| .Tuple ts _ _=>v8 S is ts|_=>false
 | .nt i is,e=>match e with| .Tuple y1 _ _=>(match y1 with| [y2,y3]=>(match y2 with| .Name x _=>(match y3 with| .Tuple ts _ _=>S.loc i x&&v8 S is ts|_=>false)|_=>false)|_=>false)|_=>false
abbrev Sn.sX (S:Sn)(i:Nat)(x:Str):Bool:=decide (S.N[i]? =some x)&&decide (S.sc.names.lookup x=some .local)
abbrev Ic (S:Sn)(is:List Nat)(ts:List Expr):Bool:=match is with
 | [i,j]=>(match ts with| [a,b]=>(match a with| .Name x _=>(match b with| .Name y _=>S.sX i x&&(S.sX j y&&decide (i≠j))|_=>false)|_=>false)|_=>false)
 | [i,j,l]=>(match ts with| [a,b,c]=>(match a with| .Name x _=>(match b with| .Name y _=>(match c with| .Name z _=>S.sX i x&&(S.sX j y&&(S.sX l z&&(decide (i≠j)&&(decide (i≠l)&&decide (j≠l)))))|_=>false)|_=>false)|_=>false)|_=>false)
 |_=>false
mutual
noncomputable def mS (S:Sn):Sx->Stmt->Bool
 | .asg i e,s=>match s with| .Assign y1 e' _=>(match y1 with| [y2]=>(match y2 with| .Name x _=>S.loc i x&&mE S e e'|_=>false)|_=>false)|_=>false
 | .asgT is e,s=>match s with| .Assign y1 e' _=>(match y1 with| [y2]=>(match y2 with| .Tuple ts _ _=>v8 S is ts&&mE S e e'&&CQ e'|_=>false)|_=>false)|_=>false
 | .par is es,s=>match s with| .Assign y1 y2 _=>(match y1 with| [y3]=>(match y3 with| .Tuple ts kt pt=>(match y2 with| .Tuple vs k2 p2=>Ic S is ts&&hG S es vs&&DR S.sc (.Tuple ts kt pt) (.Tuple vs k2 p2) (is.filterMap λi=>S.N[i]?)|_=>false)|_=>false)|_=>false)|_=>false
 | .sub o i v,s=>match s with| .Assign y1 v' _=>(match y1 with| [y2]=>(match y2 with| .Subscript o' i' _=>mE S o o'&&mE S i i'&&mE S v v'&&fh i'|_=>false)|_=>false)|_=>false
 | .fld o f v,s=>match s with| .Assign y1 v' _=>(match y1 with| [y2]=>(match y2 with| .Attribute o' f' _=>mE S o o'&&decide (f=f')&&mE S v v'|_=>false)|_=>false)|_=>false
 | .aug i op e,s=>match s with| .AugAssign y1 op' e' _=>(match y1 with| .Name x _=>S.loc i x&&decide (op=op')&&mE S e e'|_=>false)|_=>false
 | .augS o i op e,s=>match s with| .AugAssign y1 op' e' _=>(match y1 with| .Subscript o' i' _=>mE S o o'&&mE S i i'&&decide (op=op')&&mE S e e'&&fh i'|_=>false)|_=>false
 | .ret e,s=>match s with| .Return y1 _=>(match y1 with|some e'=>mE S e e'|_=>false)|_=>false
 | .retN,_=>false
 | .pass,_=>false
 | .brk,_=>false
 | .cont,_=>false
 | .expr e,s=>match s with| .Expr e' _=>mE S e e'&&sL e'|_=>false
 | .ife c a b,s=>match s with| .If c' a' b' _=>mT S c c'&&mB S a a'&&mB S b b'|_=>false
 | .whl c b,s=>match s with| .While c' b' y1 _=>(match y1 with| []=>mT S c c'&&mB S b b'|_=>false)|_=>false
 | .for t it b,s=>match s with| .For t' it' b' y1 _=>(match y1 with| []=>Jz S t t'&&mI S it t' it'&&mB S b b'&&cZ it'|_=>false)|_=>false
 | .rais e,s=>match s with| .Raise y1 y2 _=>(match y1 with|some e'=>(match y2 with|none=>mE S e e'|_=>false)|_=>false)|_=>false
 | .tryx b hs,s=>match s with| .Try b' y1 y2 y3 _=>(match y1 with|h0::hs'=>(match y2 with| []=>(match y3 with| []=>mB S b b'&&mH S hs (h0::hs')|_=>false)|_=>false)|_=>false)|_=>false
noncomputable def mB (S:Sn):lK->List Stmt->Bool
 | .nil,l=>l.isEmpty
 | .cons s r,l=>match l with|s'::r'=>mS S s s'&&mB S r r'| []=>false
noncomputable def mH (S:Sn):zV->List ExceptHandler->Bool
 | .nil,l=>l.isEmpty
 | .cons c i b hs,l=>match l with| .ExceptHandler (some (.Name x _)) (some n) (b0::bs) _::r=>S.ma x&&decide (S.T.gcl.lookup x=some c)&&decide (S.N[i]? =some n)&&decide (S.sc.names.lookup n=some .local)&&mB S b (b0::bs)&&mH S hs r|_=>false
end
structure Gs (X:Cx) (G:Gx) (S:Sn) (k:Nat) (E:St->XK):Prop extends Gd X G S k E where
 xok:G.cm=true->F6 X E
 own:PassesOwn (model X.prog X.w) X.A X.env X.xe
 stk:X.stack=X.env::X.outer
 fr:X.env.frame=some X.env.locals
 fn:∀ x,X.fn x=true
variable {e elt:Expr}{ts:List Expr}{p:Pos}{gs:List Comprehension}{scope:Scope}
section
variable {X:Cx}{G:Gx}{S:Sn}{k:Nat}{E:St->XK}
def Gs.fL (g:Gs X G S k E){Y:LF}{xe:LD}{E':St->XK}(hx:F6 (X.fL Y xe) E')(ho:PassesOwn (model X.prog X.w) X.A X.env xe):Gs (X.fL Y xe) G S k E' where
 hK:=g.hK
 hT:=g.hT
 sc:=g.sc
 N:=g.N
 nd:=g.nd
 pass:=lN hx
 cm:=g.cm
 room:=g.room
 un:=g.un
 tab:=g.tab
 fns:=g.fns
 xok:=λ_=>hx
 own:=ho
 stk:=g.stk
 fr:=g.fr
 fn:=g.fn
def Gs.bF (g:Gs X G S k E)(e:Value):Gs (X.bF e) { G with cm:=false } S k (λ_ _ _=>False) where
 hK:=g.hK
 hT:=g.hT
 sc:=g.sc
 N:=g.N
 nd:=g.nd
 pass:=λY U H s e s' I h=>by
  obtain⟨e,H',C,dx,fs,T,_,_,_,_,_,_,_,_,_,q⟩:=h;exact q.elim
 cm:=λz=>by cases z
 room:=λz=>by cases z
 un:=g.un
 tab:=g.tab
 fns:=g.fns
 xok:=λz=>by cases z
 own:=PassesOwn.never
 stk:=g.stk
 fr:=g.fr
 fn:=g.fn
def kH (env:Env):∀ {is:List Nat}{ts:List Expr},v8 S is ts=true->(assignEach ts env).length=is.length/\(assignEach ts env).findIdx? (·.1)=none
 | [],[],_=>⟨rfl,rfl⟩
 | [],_::_,h=>by simp[v8]at h
 |_::_,[],h=>by simp[v8]at h
 |i::is,t::ts,h=>by
  cases t<;>simp[v8]at h
  rename_i x p;obtain⟨h1,h2⟩:=kH env h.2;have e:assignEach (.Name x p::ts) env=(false,assign (.Name x p) env)::assignEach ts env:=rfl;rw[e];refine⟨by simp[h1],?_⟩;rw[List.findIdx?_cons];simp[h2]
def ng (g:Gs X G S k E):∀ {is:List Nat}{ts:List Expr},v8 S is ts=true->FW X ts (gl is)
 | [],[],_=>λY s U H vs us Q I r h=>m8 Y s U H vs us Q I r ⟨length_eq_zero_iff.mp h.1,by
   have:=h.2;have e:vs=[]:=length_eq_zero_iff.mp h.1;subst e;exact this⟩
 | [],_::_,h=>by simp[v8]at h
 |_::_,[],h=>by simp[v8]at h
 |i::is,t::ts,h=>by
  cases t<;>simp[v8]at h
  rename_i x p;obtain⟨hi,hx⟩:=g.loc h.1;have h1:PG X (.Name x p) (gJ i):=gI (by rw[g.N];exact g.nd) hi hx (.inl (g.fn x));have h2:=ng g h.2;intro Y s U H vs us Q I r q;refine gm h1 h2 rfl Y s U H vs us Q I r ?_;obtain⟨hl,q⟩:=q;cases vs with
  |nil=>simp at hl
  |cons v vs=>exact⟨v,vs,rfl,by simpa using hl,q⟩
def CJ (g:Gs X G S k E)(hc:G.cm=true){t:IT}(h:Jz S t e=true):PG X e (λv U H Q=>wG U t G.R.K v H λσ1=>Q σ1 H):=by
 cases t with
 |nm i=>
  conv at h=>lhs;whnf
  split at h
  .obtain⟨hi,hx⟩:=g.loc h;exact gI (by rw[g.N];exact g.nd) hi hx (.inl (g.fn _))
  .cases h
 |tp is=>
  conv at h=>lhs;whnf
  split at h
  .intro Y s U H v u Q I r q;obtain⟨a,xs,rfl,hq,hl,q⟩:=q;obtain⟨e1,e2⟩:=kH X.env h;rw[g.hK]at hq;rcases hq with hq|hq
   .exact nP (g.cm hc) (ng g h) e1 e2 Y s U H _ u Q I r ⟨a,xs,rfl,hq,hl,hl,q⟩
   .exact Fw (g.cm hc) (ng g h) e1 e2 I r hq hl ⟨hl,q⟩
  .cases h
 |nt i is=>
  conv at h=>lhs;whnf
  split at h
  .split at h
   .split at h
    .split at h
     .intro Y s U H v u Q I r q;simp only[nb]at h;obtain⟨a,y,b,ys,rfl,hq,hb,hl,q⟩:=q;obtain⟨e1,e2⟩:=kH X.env h.2;obtain⟨hi,hx⟩:=g.loc h.1;rw[g.hK]at hq hb;refine nP (n:=2) (g.cm hc) (gm (gI (by rw[g.N];exact g.nd) hi hx (.inl (g.fn _))) (gm (nP (g.cm hc) (ng g h.2) e1 e2) m8 rfl) rfl) rfl rfl Y s U H _ u Q I r ⟨a,_,rfl,hq,rfl,y,_,rfl,.ref b,_,rfl,b,ys,rfl,hb,hl,hl,rfl,q⟩
     .cases h
    .cases h
   .cases h
  .cases h
def eW {kk:Nat}(n:Nat)(env:Env):swapsWithSole [.Tuple ts kk p] e n env=pure false:=by
 cases e<;>rfl
def uK {o i:Expr}(n:Nat)(env:Env):swapsWithSole [.Subscript o i p] e n env=pure false:=by
 cases e<;>rfl
def uO {o:Expr}{f:Str}(n:Nat)(env:Env):swapsWith e (some (.Attribute o f p)) n env=pure false:=by
 cases e<;>rfl
def rS {kk:Nat}(env:Env)(h:CQ e=true):swappedStores [.Tuple ts kk p] e env=pure none:=by
 cases e<;>first|rfl|cases h
def qV {o i:Expr}(env:Env):swappedStores [.Subscript o i p] e env=pure none:=by
 cases e<;>rfl
def qW {o i:Expr}{pos:Pos}{env:Env}(h:fh i=true):∀ v,assign (.Subscript o i pos) env v=(do
   let ov <-holding [v] (eval o env)
   let iv <-holding [v,ov] (eval i env)
   standAt pos
   holding [v,ov,iv] (setItem ov iv v)
   release [v,ov,iv] []):=by
 intro v;cases i<;>first|rfl|cases h
def B3 {i:Expr}(h:fh i=true):∀ ov iv new,augStore i ov iv new=(do holding [new,ov,iv] (setItem ov iv new);release [new,ov,iv] [];pure .next):=by
 intro ov iv new;cases i<;>first|rfl|cases h
def Cu (op:Operator):HN X op (Ja op):=by
 intro Y s U H x y v u Q I r1 r2 h;unfold Ja at h
 split at h
 .exact FJ Y s U H _ _ v u Q I r1 r2 ⟨_,_,rfl,rfl,h⟩
 .exact Fi Y s U H _ _ v u Q I r1 r2 ⟨_,_,rfl,rfl,h⟩
 .exact h.elim
def FG (g:Gd X G S k E):Dr X (xP G.R.K):=by
 intro Y s U H x y v u Q I r1 r2 h;unfold xP at h;rw[g.hK]at h
 split at h
 .obtain⟨xs,w,h1,h2,h3,q⟩:=h;exact wJ Y s U H _ _ v u Q I r1 r2 ⟨_,xs,_,w,rfl,rfl,h1,h2,h3,q⟩
 .exact h.elim
def sV {py:Pos}{y:Str}{n:Nat}{env:Env}(hk:env.scope.kind=.function):∃ b,swapsWith (.ListComp elt gs scope p) (some (.Name y py)) n env=pure b/\(b=true->env.scope.names.lookup y=some .local):=by
 refine⟨_,rfl,λh=>?_⟩;simp only[nb]at h;have:=h.1.1.2;exact beq_iff_eq.mp this
end
set_option maxHeartbeats 2000000
variable {S:Sn}{α:Type}
section
variable {k:Nat}
def IE {x:Ex}(h:mE S x (.ListComp elt gs scope p)=true):(∃ e' sel it y py iter,x=.lc e' sel it/\gs=[⟨.Name y py,iter,[],0⟩]/\
  fW S scope [y] sel=true/\mI S it (.Name y py) iter=true/\mE { S with sc:=dE S.sc scope,N:=y::sel.filterMap λi=>S.N[i]? } e' elt=true/\cZ iter=true)\/
  (∃ e' c sel it y py iter c',x=.lci e' c sel it/\gs=[⟨.Name y py,iter,[c'],0⟩]/\
  fW S scope [y] sel=true/\mI S it (.Name y py) iter=true/\mE { S with sc:=dE S.sc scope,N:=y::sel.filterMap λi=>S.N[i]? } e' elt=true/\mT { S with sc:=dE S.sc scope,N:=y::sel.filterMap λi=>S.N[i]? } c c'=true/\cZ iter=true)\/
  ∃ e' n sel it ts kt pt iter,x=.lct e' n sel it/\gs=[⟨.Tuple ts kt pt,iter,[],0⟩]/\
  fW S scope (Br ts) sel=true/\v9 { S with sc:=dE S.sc scope,N:=Br ts++sel.filterMap λi=>S.N[i]? } (List.range n) ts=true/\(Br ts).length=n/\mI S it (.Tuple ts kt pt) iter=true/\mE { S with sc:=dE S.sc scope,N:=Br ts++sel.filterMap λi=>S.N[i]? } e' elt=true/\cZ iter=true:=by
 cases x<;>(try (cases(show false=true from h);done))
 all_goals (conv at h=>lhs;whnf)
 all_goals (iterate 5 (split at h<;>first|(cases h;done)|skip))
 all_goals (simp only[nb,decide_eq_true_eq]at h)
 all_goals first
  |exact .inl ⟨_,_,_,_,_,_,rfl,rfl,h.1.1.1,h.1.1.2,h.1.2,h.2⟩
  |exact .inr (.inl ⟨_,_,_,_,_,_,_,_,rfl,rfl,h.1.1.1.1,h.1.1.1.2,h.1.1.2,h.1.2,h.2⟩)
  |exact .inr (.inr ⟨_,_,_,_,_,_,_,_,rfl,rfl,h.1.1.1.1.1,h.1.1.1.1.2,h.1.1.1.2,h.1.1.2,h.1.2,h.2⟩)
def rB (e:Expr){x:Ex}(h:mE S x e=true):sL e=true\/∃ elt gs scope p,e=.ListComp elt gs scope p:=by
 cases e<;>first|exact .inl rfl|exact .inr ⟨_,_,_,_,rfl⟩|(cases x<;>cases(show false=true from h))
def Im {G:Gx}{X:Cx}{E:St->XK}(g:Gs X G S k E){i:Nat}{x:Str}{e:Ex}{e':Expr}{px:Pos}(hx:S.loc i x=true)(h:mE S e e'=true):PS X (.Assign [.Name x px] e' p) (λD U H=>wS (.asg i e) G D E U H):=by
 obtain⟨hi,hl⟩:=g.loc hx;have hN:X.N.Nodup:=by rw[g.N];exact g.nd
 rcases rB e' h with hn|⟨elt,gs,scope,pp,rfl⟩
 .exact yV hN hi hl (sE e g.toGd h) (gQ hn _ _ _) (.inl (g.fn x))
 .intro Y s U H D I q;obtain⟨b,hb,hb2⟩:=sV (elt:=elt) (gs:=gs) (scope:=scope) (p:=pp) (py:=px) (y:=x) (n:=p.line) (env:=X.env) I.ok.kind;cases b with
  |false=>exact yV hN hi hl (sE e g.toGd h) hb (.inl (g.fn x)) Y s U H D I q
  |true=>
   rcases IE h with⟨e2,sel,it,y,py,iter,rfl,rfl,h1,h2,h3,h4⟩|⟨e2,c,sel,it,y,py,iter,c',rfl,rfl,h1,h2,h3,h5,h4⟩|⟨e2,n,sel,it,ts,kt,pt,iter,rfl,rfl,h1,h5,h6,h2,h3,h4⟩
   .obtain⟨hc,q⟩:=(show G.cm=true/\wI G it U H (λJ H1=>wa (λσ' H' Q'=>wE G e2 σ' H' Q' (λ_ _=>False)) J (none::gu U sel) H1 (λx H1=>D.nx (U.set i (some x)) H1)) (E U) from q);rw[xW]at q;obtain⟨cl,C⟩:=cn g.toGd I.ok h1;exact vt (g.cm hc) C (sI it g.toGd h2) (λs H fp=>sE e2 (g.toGd.comp C s H fp) h3) (bQ h4 _) hN hi (hb2 rfl) hb Y s U H D I q
   .cases(show false=true from h)
   .obtain⟨hc,q⟩:=(show G.cm=true/\wI G it U H (λJ H1=>LCt G.R.K n (λσ' H' Q'=>wE G e2 σ' H' Q' (λ_ _=>False)) J (sn n none++gu U sel) H1 (λx H1=>D.nx (U.set i (some x)) H1)) (E U) from q);rw[xT,<-uc h6]at q;obtain⟨cl,C⟩:=cn g.toGd I.ok h1;exact f9 (g.cm hc) C (sI it g.toGd h2) (λs H fp=>tD (g.toGd.comp C s H fp) hc h5) (λs H fp=>jH) (λs H fp=>sE e2 (g.toGd.comp C s H fp) h3) (bQ h4 _) hN hi (hb2 rfl) hb Y s U H D I q
def BH {xs:List α}{i j:Nat}(h:xs.length=[i,j].length):∃ a b,xs=[a,b]:=by
 match xs,h with
 | [a,b],_=>exact⟨a,b,rfl⟩
def uW {xs:List α}{i j l:Nat}(h:xs.length=[i,j,l].length):∃ a b c,xs=[a,b,c]:=by
 match xs,h with
 | [a,b,c],_=>exact⟨a,b,c,rfl⟩
mutual
theorem sS:∀ (x:Sx){G:Gx}{X:Cx}{S:Sn}{E:St->XK},Gs X G S k E->∀ {st:Stmt},mS S x st=true->PS X st (λD U H=>wS x G D E U H)
 | .asg i e,G,X,S,E,g,st,h=>by
  sleep 3
  simp only[nb]at h;exact Im g h.1 h.2
 | .asgT is e,G,X,S,E,g,st,h=>by
  sleep 3
  simp only[nb]at h;obtain⟨⟨h1,h2⟩,h3⟩:=h;intro Y s U H D I q;obtain⟨hc,q⟩:=(show G.cm=true/\wE G e U H (λx H1=>wG U (.tp is) G.R.K x H1 λσ1=>D.nx σ1 H1) (E U) from q);exact zP (sE e g.toGd h2) (CJ g hc (t:=.tp is) (by simp only[Jz];exact h1)) (eW _ _) (rS _ h3) rfl Y s U H D I q
 | .par is es,G,X,S,E,g,st,h=>by
  sleep 4
  rename_i pos _ _ ts kt pt _ vs k2 p2;simp only[nb]at h;obtain⟨⟨h1,h2⟩,h3⟩:=h;intro Y s U H D I q;obtain⟨hc,q⟩:=(show G.cm=true/\wEs G es U H (λxs H1=>xs.length=is.length/\D.nx (vD U is xs) H1) (E U) from q);have hN:X.N.Nodup:=by rw[g.N];exact g.nd
  rw[<-g.sc]at h3;unfold Ic at h1
  split at h1
  .iterate 3 (split at h1;rotate_left;cases h1)
   rename_i i j _ _ x px _ y py;simp only[Sn.sX,nb,decide_eq_true_eq]at h1;obtain⟨⟨a1,a2⟩,⟨b1,b2⟩,c1⟩:=h1;rw[filterMap_cons,a1,filterMap_cons,b1,List.filterMap_nil]at h3;obtain⟨v1,v2,rfl⟩:=Ak h3;rw[<-g.N]at a1 b1;rw[<-g.sc]at a2 b2;exact As (g.cm hc) hN a1 b1 c1 a2 b2 (PA.bX (rl es g.toGd h2)) (yX h3) (eW _ _) Y s U H D I ⟨_,q,λxs H1 z=>by
    obtain⟨z1,z2⟩:=z;obtain⟨u1,u2,rfl⟩:=BH z1;exact⟨u1,u2,rfl,z2⟩⟩
  .iterate 4 (split at h1;rotate_left;cases h1)
   rename_i i j l _ _ x px _ y py _ z pz;simp only[Sn.sX,nb,decide_eq_true_eq]at h1;obtain⟨⟨a1,a2⟩,⟨b1,b2⟩,⟨d1,d2⟩,c1,c2,c3⟩:=h1;rw[filterMap_cons,a1,filterMap_cons,b1,filterMap_cons,d1,List.filterMap_nil]at h3;obtain⟨v1,v2,v3,rfl⟩:=vi h3;rw[<-g.N]at a1 b1 d1;rw[<-g.sc]at a2 b2 d2;exact An (g.cm hc) hN a1 b1 d1 c1 c2 c3 a2 b2 d2 (PA.bX (rl es g.toGd h2)) (yX h3) (eW _ _) Y s U H D I ⟨_,q,λxs H1 z=>by
    obtain⟨z1,z2⟩:=z;obtain⟨u1,u2,u3,rfl⟩:=uW z1;exact⟨u1,u2,u3,rfl,z2⟩⟩
  .cases h1
 | .sub o i v,G,X,S,E,g,st,h=>by
  sleep 3
  simp only[nb]at h;obtain⟨⟨⟨h1,h2⟩,h3⟩,h4⟩:=h;exact zP (sE v g.toGd h3) (DZ (sE o g.toGd h1) (sE i g.toGd h2) (ud g.un) (qW h4)) (uK _ _) (qV _) rfl
 | .fld o f v,G,X,S,E,g,st,h=>by
  sleep 3
  simp only[nb,decide_eq_true_eq]at h;obtain⟨⟨h1,rfl⟩,h3⟩:=h;intro Y s U H D I q;have q':wE G v U H (λy H1=>wE G o U H1 (λx H2=>Bw G f x y H2 (λH3=>D.nx U H3)) (E U)) (E U):=q;refine plainObj_wpAny_Assign_Attribute (aA (sE v g.toGd h3 Y s U H _ I q') λu s1 ⟨y,H1,I1,ry,q⟩=>aA (sE o g.toGd h1 Y s1 U H1 _ I1 q) λov s2 ⟨x,H2,I2,rx,q2⟩=>?_) (uO _ _);unfold Bw at q2;obtain⟨a,i,rfl,hna,q2⟩:=q2;obtain rfl:ov=Value.ref a:=rx;have n:=g.tab.na i f hna;rcases q2 with⟨dx,fs,ho,ea,l,q2⟩|⟨d,fs,fr,ho,ea,l,q2⟩|⟨fr,ho,ea,q2⟩
  .exact rH I2 ea (g.tab.oc i ho).1 n l ry λs3 I3=>⟨U,_,I3,q2⟩
  .exact sY I2 ea (g.tab.xc i ho).1 n l ry λs3 I3=>⟨U,_,I3,q2⟩
  .exact rq I2 ea (g.tab.xc i ho).1 n ry λd s3 hd I3=>⟨U,_,I3,q2 d hd⟩
 | .aug i op e,G,X,S,E,g,st,h=>by
  sleep 2
  simp only[nb,decide_eq_true_eq]at h;obtain⟨⟨h1,rfl⟩,h3⟩:=h;obtain⟨hi,hl⟩:=g.loc h1;refine PS.imp (D0 (by rw[g.N];exact g.nd) hi hl (sE e g.toGd h3) (Cu op) (.inl (g.fn _))) λD U H q=>?_
  conv at q=>whnf
  split at q
  .rename_i e;exact⟨_,e,q⟩
  .exact q.elim
 | .augS o i op e,G,X,S,E,g,st,h=>by
  sleep 2
  simp only[nb,decide_eq_true_eq]at h;obtain⟨⟨⟨⟨h1,h2⟩,rfl⟩,h3⟩,h4⟩:=h;exact AK (sE o g.toGd h1) (sE i g.toGd h2) (FG g.toGd) (sE e g.toGd h3) (Cu op) (ud g.un) (B3 h4)
 | .ret e,G,X,S,E,g,st,h=>by
  sleep 2
  exact Fu (sE e g.toGd h)
 | .retN,G,X,S,E,g,st,h=>by cases(show false=true from h)
 | .pass,G,X,S,E,g,st,h=>by cases(show false=true from h)
 | .brk,G,X,S,E,g,st,h=>by cases(show false=true from h)
 | .cont,G,X,S,E,g,st,h=>by cases(show false=true from h)
 | .expr e,G,X,S,E,g,st,h=>by
  sleep 1
  simp only[nb]at h;exact B8 (sE e g.toGd h.1) (gQ h.2 _ _ _)
 | .ife c a b,G,X,S,E,g,st,h=>by
  sleep 1
  simp only[nb]at h;exact PS.imp (HI (PT.bX (sT c g.toGd h.1.1)) (sB a g h.1.2) (sB b g h.2)) λD U H q=>⟨_,q,λk H1 z=>by rwa [dv]at z⟩
 | .whl c b,G,X,S,E,g,st,h=>by
  sleep 2
  simp only[nb]at h;refine PS.imp (yS g.own (PT.bX (sT c g.toGd h.1)) (sB b g h.2)) λD U H q=>?_
  obtain⟨W,w0,w1⟩:=q;exact⟨W,w0,λm U H w=>⟨_,w1 m U H w,λk H1 z=>by rwa [dv]at z⟩⟩
 | .for t it b,G,X,S,E,g,st,h=>by
  sleep 2
  simp only[nb]at h;obtain⟨⟨⟨h1,h2⟩,h3⟩,h4⟩:=h;intro Y s U H D I q
  conv at q=>whnf
  obtain⟨hc,q⟩:=q;unfold lz at q;exact D4 g.own (g.cm hc) (sI it g.toGd h2) (CJ g hc h1) (sB b g h3) (bQ h4 _) Y s U H D I q
 | .rais e,G,X,S,E,g,st,h=>by
  sleep 3
  intro Y s U H D I q
  conv at q=>whnf
  obtain⟨hc,q⟩:=q;refine zy (g.xok hc) (g.cm hc) (PE.bX (sE e g.toGd h)) Y s U H D I ⟨_,q,λv H1 z=>?_⟩;obtain⟨a,i,dx,fs,ev,ea,hi,q⟩:=z;exact⟨a,_,dx,fs,ev,ea,(g.tab.xc i hi).1,q⟩
 | .tryx b hs,G,X,S,E,g,st,h=>by
  sleep 4
  simp only[nb]at h;intro Y s U H D I q;obtain⟨hc,q⟩:=(show G.cm=true/\wB b G D (λσ' e H'=>wH hs G D σ' e H') U H from q);refine Eu (E':=λσ' e H'=>wH hs G D σ' e H') I g.stk g.fr (λxe hx ho=>?_) λσ' H' s' e C dx fs T J he hT hH hp st q'=>?_
  .exact sB b (g.fL hx ho) h.1 [] s U H D (I.fL xe) q
  .exact sH hs g h.2 J he hT hH hp st q'
theorem sB:∀ (x:lK){G:Gx}{X:Cx}{S:Sn}{E:St->XK},Gs X G S k E->∀ {st:List Stmt},mB S x st=true->BY X st (λD U H=>wB x G D E U H)
 | .nil,G,X,S,E,g,[],h=>Cb
 | .nil,G,X,S,E,g,_::_,h=>by cases(show false=true from h)
 | .cons x xs,G,X,S,E,g,[],h=>by cases(show false=true from h)
 | .cons x xs,G,X,S,E,g,st::sts,h=>by
  have h:(mS S x st&&mB S xs sts)=true:=h;simp only[nb]at h;exact xu (sS x g h.1) (sB xs g h.2)
theorem sH:∀ (x:zV){G:Gx}{X:Cx}{S:Sn}{E:St->XK},Gs X G S k E->∀ {hs:List ExceptHandler},mH S x hs=true->∀ {Y:LF}{U:St}{H:Hp}{s:Shared}{e C:Addr}{dx:Option Addr}{fs:List (Str×V)}{T:Addr}{D:Ends},
  L2.Inv X Y U H s->H e=some (.exc C dx fs false)->X.s₀.heap.objs.size<=T->H T=none->(∀ p ∈ X.pn++Y,p.1≠T)->Aa s.heap e T .none->wH x G D U e H->wpAny (model X.prog X.w) X.A (handleBy (.ref e) X.env hs) (SP X Y D) X.xe s
 | .nil,G,X,S,E,g,hs,h,Y,U,H,s,e,C,dx,fs,T,D,I,he,hT,hH,hp,st,q=>by
  simp only[wH]at q
 | .cons c i b hs,G,X,S,E,g,l,h,Y,U,H,s,e,C,dx,fs,T,D,I,he,hT,hH,hp,st,q=>by
  conv at h=>lhs;whnf
  split at h
  .simp only[nb,decide_eq_true_eq]at h;obtain⟨⟨⟨⟨⟨h1,h2⟩,h3⟩,h4⟩,h5⟩,h6⟩:=h;obtain⟨hg,hdb⟩:=g.glob h1;have hm:=g.tab.gcl _ _ (g.hT▸h2);obtain⟨j,dx',fs',kk,he',hxc,hsub,q⟩:=(show ∃ j dx fs k,H e=some (.exc (G.R.cad j) dx fs false)/\G.T.xc.contains j=true/\G.T.sub.lookup (j,c)=some k/\_ from q);have ee:=he.symm.trans he'
   injection ee with ee
   injection ee with e1 e2 e3 e4
   subst e1;obtain⟨_,hs2⟩:=g.tab.sub j c kk hsub;obtain⟨hs3,hs4⟩:=hs2 hxc;refine pe (i:=i) I he hT hH hp st (g.tab.xc j hxc).1 hs4 hs3 hg hm (by rw[g.N];exact g.nd) (by rw[g.N];exact h3) (by rw[g.sc];exact h4) hdb (λhk s2 J=>?_) λhk=>?_
   .rw[hk]at q;unfold jo at q;exact sB b (g.bF (.ref e)) h5 Y s2 _ H _ J q
   .rw[hk]at q;unfold jo at q;exact sH hs g h6 I he hT hH hp st q
  .cases h
end
end
abbrev cO (T:Tab)(R:Rt):Nat->Nat->Sp
 |0,_=>λ_ _ _ _=>False
 |k+1,f=>λvs H Q E=>match T.fns[f]? with
  |some d=>vs.length=d.ps.length/\wB d.body ⟨T,R,cO T R k,true⟩ { nx:=λ_ H'=>Q .non H',rt:=Q } (λ_=>E) (start d.N vs) H
  |none=>False
structure vE (K:W.Frag) (T:Tab) (f:Addr) (d:au):Prop where
 ex:∃ (name qual:Str) (params:Arguments) (body:List Stmt) (scope:Scope) (dV kV doc pm cdv ct oc:Value) (od an:Option Addr) (osl:Array (Option Value)),
  K.lookup f=some ⟨oc,od,.func (W.fnOf name qual params body scope dV kV doc pm an cdv ct),osl⟩/\W.codeIn K cdv qual=true/\jK d.N d.ps scope/\mB ⟨T,scope,d.N⟩ d.body body=true/\
  ∀ j,∃ ds,Binds K (W.fnOf name qual params body scope dV kV doc pm an cdv ct) d.ps ds/\Vals (d.dfl.drop j) ds
def yT {P:Program}{w:World}{K:W.Frag}{mg:LG}{base:Heap}{T:Tab}{R:Rt}(tab:Bq K mg T R)(hK:R.K=K)(fs:∀ f d,T.fns[f]? =some d->vE K T (R.fad f) d):
  ∀ (k f:Nat) (d:au),T.fns[f]? =some d->xH P w K mg base (2*k) (R.fad f) d (cO T R k f)
 |0,f,d,hd=>by
  obtain⟨name,qual,params,body,scope,dV,kV,doc,pm,cdv,ct,oc,od,an,osl,lk,hcd,S,hm,hb⟩:=(fs f d hd).ex;exact⟨⟨_,⟨λ_ _ _ _ h=>h.elim,λ_ _ _ _ _ _ _ _ _ _ _ _ _ h=>h.elim⟩,hb⟩,λ_ _ _ _ _=>⟨λ_ _ _ _ h=>h.elim,λ_ _ _ _ _ _ _ _ _ _ _ _ _ h=>h.elim⟩⟩
 |k+1,f,d,hd=>by
  obtain⟨name,qual,params,body,scope,dV,kV,doc,pm,cdv,ct,oc,od,an,osl,lk,hcd,S,hm,hb⟩:=(fs f d hd).ex;have F:=IA (P:=P) (w:=w) (mg:=mg) (base:=base) (CX:=zx P w) (k:=2*k+1) (sp:=cO T R (k+1) f) lk hcd S (λvs H Q E h=>?_) (λA outer s H vs Q E hr h=>?_)
  .refine⟨⟨_,F,hb⟩,λfd oc' od' osl' lk'=>?_⟩;have e:=lk.symm.trans lk'
   injection e with e
   injection e with e1 e2 e3 e4
   injection e3 with e3
   subst e3;exact F
  .simp only[cO,hd]at h;exact h.1
  .simp only[cO,hd]at h;refine⟨λD U H=>wB d.body ⟨T,R,cO T R k,true⟩ D (λ_=>E) U H,?_,h.2⟩;have hx:=vq (P:=P) (w:=w) (K:=K) (mg:=mg) (base:=base) (N:=d.N) (qual:=qual) (scope:=scope) (f:=R.fad f) (cd:=cdv) (A:=A) (outer:=outer) (E:=E) (s:=s) (H:=H);refine sB (k:=2*k) d.body (G:=⟨T,R,cO T R k,true⟩) (S:=⟨T,scope,d.N⟩) { hK:=hK,hT:=rfl,sc:=rfl,N:=rfl,nd:=S.nd,pass:=lN hx,cm:=λ_=>rfl,room:=λ_=>hr,un:= ?_,tab:=tab,fns:=λf' d' hd'=>yT tab hK fs k f' d' hd',xok:=λ_=>hx,own:=PassesOwn.leaving,stk:=rfl,fr:=rfl,fn:=λ_=>rfl } hm;have:=hr.un;show(A.deeper _).units+200<cLine
   omega
abbrev jk (K:W.Frag)(n:Nat):Sp:=λvs H Q _=>∃ (a:Addr) (ns:List Int),vs=[.ref a]/\bj K H a (ns.map V.int)/\ns.length<=n/\∀ H',Q (.bl true) H'
variable {P:Program}
def wQ {w:World}{H:Hp}{s:Shared}{e:Value}{s':Shared}(h:zx P w [] H s (λ_ _=>False) e s'):False:=by
 obtain⟨e,H',C,dx,fs,T,_,_,_,_,_,_,_,_,_,q⟩:=h;exact q
variable {fd:FuncData}{ps:List Str}
def DN {K:W.Frag}(h:Binds K fd ps []):∀ j:Nat,∃ ds,Binds K fd ps ds/\Vals (([]:List V).drop j) ds:=λj=>⟨[],h,by simp;exact .nil⟩
def AZ {K:W.Frag}{ds:List Value}{T:Addr}{o:Obj}{items:Array Value}{c n:Nat}(hd:fd.defaults=.ref T)(ho:K.lookup T=some o)(hs:o.data=.seq items c)(hn:n+ds.length=ps.length)
  (h:∀ us:List Value,us.length=n->∃ k:Option (Array Value)->Sem (List (Str×Value)),bindArgs fd ⟨us,[]⟩=seqItems? fd.defaults >>= k/\k (some items)=pure (ps.zip (us++ds))):Binds K fd ps ds:=λs us X hl=>by
 obtain⟨k,h1,h2⟩:=h us (by rw[ci]at hl;omega);exact W.binds_K X hd ho hs h1 h2
def lP:∀ {vs:List V}{us:List Value}(j:Nat),Vals vs us->Vals (vs.drop j) (us.drop j)
 |_,_,0,h=>h
 |_,_,j+1,.nil=>by simp;exact .nil
 |_::_,_::_,j+1,.cons _ h=>by simpa using lP j h
def qN {α β:Type} [BEq α] [LawfulBEq α] {x:α}{y:β}:∀ {l:List (α×β)},l.lookup x=some y->(x,y) ∈ l
 | [],h=>by simp at h
 |(a,b)::l,h=>by
  rw[lookup_cons]at h;cases e:x ==a with
  |true=>
   rw[e]at h;have:=beq_iff_eq.mp e;subst this
   injection h with h
   subst h;exact lw
  |false=>
   rw[e]at h;exact dl _ (qN h)
def jT {β:Type} [BEq α] [LawfulBEq α] {P:α->β->Prop}{l:List (α×β)}(h:∀ p ∈ l,P p.1 p.2):∀ x y,l.lookup x=some y->P x y:=λx y e=>h (x,y) (qN e)
def gB {β γ:Type} [BEq α] [LawfulBEq α] [BEq β] [LawfulBEq β] {P:α->β->γ->Prop}{l:List ((α×β)×γ)}(h:∀ p ∈ l,P p.1.1 p.1.2 p.2):∀ x y z,l.lookup (x,y)=some z->P x y z:=λx y z e=>h ((x,y),z) (qN e)
def iz  [BEq α] [LawfulBEq α] {P:α->Prop}{l:List α}(h:∀ p ∈ l,P p):∀ x,l.contains x=true->P x:=λx e=>h x (by simpa using e)
def Ci {β:Type} [BEq α] [LawfulBEq α] [BEq β] [LawfulBEq β] {P:α->β->Prop}{l:List (α×β)}(h:∀ p ∈ l,P p.1 p.2):∀ x y,l.contains (x,y)=true->P x y:=λx y e=>h (x,y) (by simpa using e)
abbrev tm (P:Nat->au->Prop):Nat->List au->Prop
 |_,[]=>True
 |n,d::r=>P n d/\tm P (n+1) r
def CW {P:Nat->au->Prop}:∀ {l:List au}{n:Nat},tm P n l->∀ f d,l[f]? =some d->P (n+f) d
 | [],_,_,f,d,e=>by simp at e
 |a::l,n,h,0,d,e=>by
  have:a=d:=by simpa using e
  subst this;exact h.1
 |a::l,n,h,f+1,d,e=>by
  have:=CW h.2 f d (by simpa using e)
  rwa [Nat.add_assoc,Nat.add_comm 1 f]at this
def sJ {P:Nat->au->Prop}{l:List au}(h:tm P 0 l):∀ f d,l[f]? =some d->P f d:=λf d e=>by
 have:=CW h f d e
 rwa [Nat.zero_add]at this
def FF {w:World}{K:W.Frag}{mg:LG}{base:Heap}{T:Tab}{R:Rt}(tab:Bq K mg T R)(hK:R.K=K)(fs:∀ f d,T.fns[f]? =some d->vE K T (R.fad f) d) (k fl:Nat) (d:au) (hd:T.fns[fl]? =some d)
  {oc:Value}{od:Option Addr}{osl:Array (Option Value)}(lk:K.lookup (R.fad fl)=some ⟨oc,od,.func fd,osl⟩) (h:∀ vs H Q E,jk K 63 vs H Q E->cO T R k fl vs H Q E):cN P w K mg base (zx P w) (2*k) (R.fad fl) fd d.ps (jk K 63):=
 ((yT tab hK fs k fl d hd).own _ _ _ _ lk).imp h
end L3
namespace L3
open PySem L2
abbrev ly:HO->HO
 | .lst _=>.lst []
 | .dK _=>.dK []
 | .dT _=>.dT []
 | .ins C dx _=>.ins C dx []
 | .exc C _ _ _=>.exc C none [] false
 |o=>o
abbrev kd:HO->Option String
 | .lst _=>some "list"
 | .tup _=>some "tuple"
 | .dK _=>some "dict"
 |_=>none
def tG (o:HO):kd (ly o)=kd o:=by cases o<;>rfl
abbrev ju (H H':Hp):Prop:=∀ a o,H a=some o->∃ o',H' a=some o'/\ly o'=ly o
def ju.tup {H H':Hp}(g:ju H H'){t:Addr}{xs:List V}(h:H t=some (.tup xs)):H' t=some (.tup xs):=by
 obtain⟨o',h1,h2⟩:=g t _ h;have key:∀ u:HO,ly u=.tup xs->u=.tup xs:=λu=>by cases u<;>intro e<;>first|exact e|cases e
 rw[key o' h2]at h1;exact h1
variable {H:Hp}
def ju.ty {H':Hp}(g:ju H H'){v:V}{t:String}(h:tyName v H=some t):tyName v H'=some t:=by
 cases v<;>try exact h
 rename_i a;have h':(match H a with|some (.lst _)=>some "list"|some (.tup _)=>some "tuple"|some (.dK _)=>some "dict"|_=>none)=some t:=h;show(match H' a with|some (.lst _)=>some "list"|some (.tup _)=>some "tuple"|some (.dK _)=>some "dict"|_=>none)=some t;cases e:H a with
 |none=>rw[e]at h';cases h'
 |some o=>
  rw[e]at h';obtain⟨o',h1,h2⟩:=g a _ e;rw[h1];have key:kd o'=kd o:=by rw[<-tG o',<-tG o,h2]
  have k1:∀ u:HO,(match some u with|some (HO.lst _)=>some "list"|some (.tup _)=>some "tuple"|some (.dK _)=>some "dict"|_=>none)=kd u:=λu=>by cases u<;>rfl
  rw[k1]at h'⊢;rw[key];exact h'
variable {a:Addr}{xs:List V}
def Gg (e:H a=some (.lst xs)):tyName (.ref a) H=some "list":=by
 show(match H a with|some (.lst _)=>some "list"|some (.tup _)=>some "tuple"|some (.dK _)=>some "dict"|_=>none)=_;rw[e]
def ju.upd {o o':HO}(h:H a=some o)(e:ly o'=ly o):ju H (L2.upd H a o'):=λb u hb=>by
 by_cases z:b=a
 .subst z;rw[h]at hb;cases hb;exact⟨o',aB,e⟩
 .exact⟨u,(ak z).trans hb,rfl⟩
def ju.new {o':HO}(h:H a=none):ju H (L2.upd H a o'):=λb u hb=>⟨u,(ak λz=>by rw[z,h]at hb;cases hb).trans hb,rfl⟩
structure aw where
 p:Hp->(Addr->Prop)->Prop
 st:∀ H H' D,p H D->(∀ a,D a->H' a=H a)->ju H H'->p H' D
 up:∀ H D D',p H D->(∀ a,D a->D' a)->p H D'
abbrev pt (a:Addr)(o:HO):aw:=⟨λH D=>D a/\H a=some o,λH H' D h k _=>⟨h.1,(k a h.1).trans h.2⟩,λH D D' h k=>⟨k a h.1,h.2⟩⟩
abbrev tu (t:Addr)(xs:List V):aw:=⟨λH _=>H t=some (.tup xs),λH H' D h _ k=>k.tup h,λH D D' h _=>h⟩
abbrev tys (xs:List V):aw:=⟨λH _=>∀ x ∈ xs,∃ t,tyName x H=some t,λH H' D h _ k x hx=>let⟨t,e⟩:=h x hx;⟨t,k.ty e⟩,λH D D' h _=>h⟩
abbrev pu (φ:Prop):aw:=⟨λ_ _=>φ,λ_ _ _ h _ _=>h,λ_ _ _ h _=>h⟩
abbrev ex {α:Type}(f:α->aw):aw:=⟨λH D=>∃ x,(f x).p H D,λH H' D ⟨x,h⟩ k t=>⟨x,(f x).st H H' D h k t⟩,λH D D' ⟨x,h⟩ k=>⟨x,(f x).up H D D' h k⟩⟩
abbrev oy (A B:aw):aw:=⟨λH D=>∃ D1 D2:Addr->Prop,(∀ a,D1 a->D a)/\(∀ a,D2 a->D a)/\(∀ a,D1 a->D2 a->False)/\A.p H D1/\B.p H D2,
 λH H' D ⟨D1,D2,s1,s2,dj,h1,h2⟩ k t=>⟨D1,D2,s1,s2,dj,A.st H H' D1 h1 (λa z=>k a (s1 a z)) t,B.st H H' D2 h2 (λa z=>k a (s2 a z)) t⟩,
 λH D D' ⟨D1,D2,s1,s2,dj,h1,h2⟩ k=>⟨D1,D2,λa z=>k a (s1 a z),λa z=>k a (s2 a z),dj,h1,h2⟩⟩
abbrev bz:List aw->Hp->(Addr->Prop)->Prop
 | [],_,_=>True
 |A::O,H,D=>∃ D1 D2:Addr->Prop,(∀ a,D1 a->D a)/\(∀ a,D2 a->D a)/\(∀ a,D1 a->D2 a->False)/\A.p H D1/\bz O H D2
abbrev Sep (O:List aw)(H:Hp):Prop:=∃ D:Addr->Prop,(∀ a,D a->H a≠none)/\bz O H D
inductive ah (A:aw):List aw->List aw->Prop where
 |e {O:List aw}:ah A (A::O) O
 |t {B:aw}{O Γ':List aw}(h:ah A O Γ'):ah A (B::O) (B::Γ')
variable {g:List aw}
section
variable {A B:aw}{O Γ':List aw}{H H':Hp}{a b p t:Addr}{o o':HO}{xs:List V}{φ:Prop}
def bz.st:∀ {O:List aw}{H H':Hp}{D:Addr->Prop},bz O H D->(∀ a,D a->H' a=H a)->ju H H'->bz O H' D
 | [],_,_,_,_,_,_=>True.intro
 |A::O,H,H',D,⟨D1,D2,s1,s2,dj,h1,h2⟩,k,t=>⟨D1,D2,s1,s2,dj,A.st H H' D1 h1 (λa z=>k a (s1 a z)) t,bz.st h2 (λa z=>k a (s2 a z)) t⟩
def bz.up:∀ {O:List aw}{H:Hp}{D D':Addr->Prop},bz O H D->(∀ a,D a->D' a)->bz O H D'
 | [],_,_,_,_,_=>True.intro
 |A::O,H,D,D',⟨D1,D2,s1,s2,dj,h1,h2⟩,k=>⟨D1,D2,λa z=>k a (s1 a z),λa z=>k a (s2 a z),dj,h1,h2⟩
def Sep.nil:Sep [] H:=⟨λ_=>False,λ_ z=>z.elim,True.intro⟩
def bz.pull:∀ {O Γ':List aw}{D:Addr->Prop},ah A O Γ'->bz O H D->bz (A::Γ') H D:=by
 intro O Γ' D h
 induction h generalizing D with
 |e=>exact λz=>z
 |t h ih=>
  rintro⟨D1,D2,s1,s2,dj,h1,h2⟩;obtain⟨E1,E2,t1,t2,ej,k1,k2⟩:=ih h2;refine⟨E1,λa=>D1 a\/E2 a,λa z=>s2 a (t1 a z),λa z=>z.elim (s1 a) λz=>s2 a (t2 a z),λa z1 z2=>?_,k1,D1,E2,λa z=>.inl z,λa z=>.inr z,λa z1 z2=>dj a z1 (t2 a z2),h1,k2⟩;rcases z2 with z2|z2
  .exact dj a z2 (t1 a z1)
  .exact ej a z1 z2
def Sep.pull (h:ah A O Γ')(s:Sep O H):Sep (A::Γ') H:=let⟨D,k,z⟩:=s;⟨D,k,bz.pull h z⟩
def bz.push:∀ {O Γ':List aw}{D:Addr->Prop},ah A O Γ'->bz (A::Γ') H D->bz O H D:=by
 intro O Γ' D h
 induction h generalizing D with
 |e=>exact λz=>z
 |t h ih=>
  rintro⟨D1,D2,s1,s2,dj,h1,E1,E2,t1,t2,ej,k1,k2⟩;refine⟨E1,λa=>D1 a\/E2 a,λa z=>s2 a (t1 a z),λa z=>z.elim (s1 a) λz=>s2 a (t2 a z),λa z1 z2=>?_,k1,ih ⟨D1,E2,λa z=>.inl z,λa z=>.inr z,λa z1 z2=>dj a z1 (t2 a z2),h1,k2⟩⟩;rcases z2 with z2|z2
  .exact dj a z2 (t1 a z1)
  .exact ej a z1 z2
def Sep.push (h:ah A O Γ')(s:Sep (A::Γ') H):Sep O H:=let⟨D,k,z⟩:=s;⟨D,k,bz.push h z⟩
def Sep.drop (s:Sep (A::O) H):Sep O H:=let⟨D,k,D1,D2,s1,s2,dj,h1,h2⟩:=s;⟨D2,λa z=>k a (s2 a z),h2⟩
def Sep.at (s:Sep (pt a o::O) H):H a=some o:=let⟨D,k,D1,D2,s1,s2,dj,h1,h2⟩:=s;h1.2
def Sep.atT (s:Sep (tu t xs::O) H):H t=some (.tup xs):=let⟨D,k,D1,D2,s1,s2,dj,h1,h2⟩:=s;h1
def Sep.pure (s:Sep (pu φ::O) H):φ:=let⟨D,k,D1,D2,s1,s2,dj,h1,h2⟩:=s;h1
def Sep.yN (h:φ)(s:Sep O H):Sep (pu φ::O) H:=let⟨D,k,h2⟩:=s;⟨D,k,λ_=>False,D,λ_ z=>z.elim,λ_ z=>z,λ_ z _=>z,h,h2⟩
def Sep.F4 (h:H t=some (.tup xs))(s:Sep O H):Sep (tu t xs::O) H:=let⟨D,k,h2⟩:=s;⟨D,k,λ_=>False,D,λ_ z=>z.elim,λ_ z=>z,λ_ z _=>z,h,h2⟩
def Sep.ne (s:Sep (pt a o::pt b o'::O) H):a≠b:=by
 obtain⟨D,k,D1,D2,s1,s2,dj,h1,E1,E2,t1,t2,ej,k1,k2⟩:=s;rintro rfl;exact dj a h1.1 (t1 a k1.1)
def Sep.set (s:Sep (pt a o::O) H)(n:ly o'=ly o):Sep (pt a o'::O) (upd H a o'):=by
 obtain⟨D,k,D1,D2,s1,s2,dj,h1,h2⟩:=s;refine⟨D,λb z=>?_,D1,D2,s1,s2,dj,⟨h1.1,aB⟩,bz.st h2 (λb z=>ak λe=>dj a h1.1 (e▸z)) (ju.upd h1.2 n)⟩
 by_cases e:b=a
 .rw[e,aB];exact λz=>by cases z
 .rw[ak e];exact k b z
def Sep.new (s:Sep O H)(h:H p=none):Sep (pt p o::O) (upd H p o):=by
 obtain⟨D,k,z⟩:=s;have ne:∀ b,D b->b≠p:=λb hb e=>k b hb (e▸h)
 refine⟨λb=>b=p\/D b,λb hb=>?_,λb=>b=p,D,λb e=>.inl e,λb e=>.inr e,λb e z=>ne b z e,⟨rfl,aB⟩,bz.st z (λb hb=>ak (ne b hb)) (ju.new h)⟩;rcases hb with rfl|hb
 .rw[aB];exact λz=>by cases z
 .rw[ak (ne b hb)];exact k b hb
def Sep.mR (s:Sep O H)(h:H p=none):Sep (tu p xs::O) (upd H p (.tup xs)):=Sep.F4 aB (Sep.drop (s.new (o:=.tup xs) h))
def Sep.toT (s:Sep (pt t (.tup xs)::O) H):Sep (tu t xs::O) H:=Sep.F4 s.at s.drop
def Sep.star:Sep (oy A B::O) H ↔ Sep (A::B::O) H:=by
 constructor
 .rintro⟨D,k,D1,D2,s1,s2,dj,⟨E1,E2,t1,t2,ej,k1,k2⟩,h2⟩;refine⟨D,k,E1,λa=>E2 a\/D2 a,λa z=>s1 a (t1 a z),λa z=>z.elim (λz=>s1 a (t2 a z)) (s2 a),λa z1 z2=>?_,k1,E2,D2,λa z=>.inl z,λa z=>.inr z,λa z1 z2=>dj a (t2 a z1) z2,k2,h2⟩;rcases z2 with z2|z2
  .exact ej a z1 z2
  .exact dj a (t1 a z1) z2
 .rintro⟨D,k,D1,D2,s1,s2,dj,h1,E1,E2,t1,t2,ej,k1,k2⟩;refine⟨D,k,λa=>D1 a\/E1 a,E2,λa z=>z.elim (s1 a) λz=>s2 a (t1 a z),λa z=>s2 a (t2 a z),λa z1 z2=>?_,⟨D1,E1,λa z=>.inl z,λa z=>.inr z,λa z1 z2=>dj a z1 (t1 a z2),h1,k1⟩,k2⟩;rcases z1 with z1|z1
  .exact dj a z1 (t2 a z2)
  .exact ej a z1 z2
def Sep.F0 {α:Type}{f:α->aw}:Sep (ex f::O) H ↔ ∃ x,Sep (f x::O) H:=by
 constructor
 .rintro⟨D,k,D1,D2,s1,s2,dj,⟨x,h1⟩,h2⟩;exact⟨x,D,k,D1,D2,s1,s2,dj,h1,h2⟩
 .rintro⟨x,D,k,D1,D2,s1,s2,dj,h1,h2⟩;exact⟨D,k,D1,D2,s1,s2,dj,⟨x,h1⟩,h2⟩
def Sep.G7 (s:Sep (tys xs::O) H):∀ x ∈ xs,∃ t,tyName x H=some t:=let⟨D,k,D1,D2,s1,s2,dj,h1,h2⟩:=s;h1
def Sep.free (h:∀ D,A.p H D) (s:Sep O H):Sep (A::O) H:=let⟨D,k,h2⟩:=s;⟨D,k,λ_=>False,D,λ_ z=>z.elim,λ_ z=>z,λ_ z _=>z,h _,h2⟩
def Sep.Iy (h:∀ x ∈ xs,∃ t,tyName x H=some t) (s:Sep O H):Sep (tys xs::O) H:=s.free λ_=>h
def Sep.get (s:Sep O H)(h:ah (pt a o) O Γ'):H a=some o:=(s.pull h).at
def Sep.jG (s:Sep O H)(h:ah (tu t xs) O Γ'):H t=some (.tup xs):=(s.pull h).atT
inductive aK (A B:aw):List aw->List aw->Prop where
 |e {O:List aw}:aK A B (A::O) (B::O)
 |t {C:aw}{O Γ':List aw}(h:aK A B O Γ'):aK A B (C::O) (C::Γ')
def ah.k1 {b:aw}:ah A (b::A::g) (b::g):=.t .e
def ah.k2 {b c:aw}:ah A (b::c::A::g) (b::c::g):=.t .k1
def ah.k3 {b c d:aw}:ah A (b::c::d::A::g) (b::c::d::g):=.t .k2
def ah.j2 {b c:aw}{f:List aw}(h:ah A g f):ah A (b::c::g) (b::c::f):=.t (.t h)
def aK.k1 {b:aw}:aK A B (b::A::g) (b::B::g):=.t .e
def aK.k2 {b c:aw}:aK A B (b::c::A::g) (b::c::B::g):=.t .k1
def aK.k3 {b c d:aw}:aK A B (b::c::d::A::g) (b::c::d::B::g):=.t .k2
def aK.j2 {b c:aw}{f:List aw}(h:aK A B g f):aK A B (b::c::g) (b::c::f):=.t (.t h)
def aK.bC (h:aK A B O Γ'):∃ Δ,ah A O Δ/\ah B Γ' Δ:=by
 induction h with
 |e=>exact⟨_,.e,.e⟩
 |t h ih=>
  obtain⟨Δ,h1,h2⟩:=ih;exact⟨_,.t h1,.t h2⟩
def Sep.put (s:Sep O H)(h:aK (pt a o) (pt a o') O Γ')(n:ly o'=ly o):Sep Γ' (upd H a o'):=by
 obtain⟨Δ,h1,h2⟩:=h.bC;exact((s.pull h1).set n).push h2
inductive Sub:List aw->List aw->Prop where
 |refl {O:List aw}:Sub O O
 |nil {O:List aw}:Sub [] O
 |cons {A:aw}{O Γ' Δ:List aw}(h:ah A O Δ) (r:Sub Γ' Δ):Sub (A::Γ') O
 |drop {A:aw}{O Γ':List aw}(r:Sub Γ' O):Sub Γ' (A::O)
def bz.sub:∀ {O Γ':List aw}{D:Addr->Prop},Sub Γ' O->bz O H D->bz Γ' H D:=by
 intro O Γ' D h
 induction h generalizing D with
 |refl=>exact λz=>z
 |nil=>exact λ_=>True.intro
 |cons h r ih=>
  intro z;obtain⟨D1,D2,s1,s2,dj,h1,h2⟩:=bz.pull h z;exact⟨D1,D2,s1,s2,dj,h1,ih h2⟩
 |drop r ih=>
  rintro⟨D1,D2,s1,s2,dj,h1,h2⟩;exact(ih h2).up s2
def Sep.sub (h:Sub Γ' O)(s:Sep O H):Sep Γ' H:=let⟨D,k,z⟩:=s;⟨D,k,bz.sub h z⟩
end
@[irreducible] noncomputable def aa (T:Tab) (R:Rt) (k f:Nat):Sp:=cO T R k f
def pA:aa=cO:=by
 funext T R k f
 unfold aa
 rfl
variable {Q:VK}
def wc {T:Tab}{R:Rt}{k f:Nat}{d:au}{vs:List V}{E:XK}(hk:0<k)(hd:T.fns[f]? =some d)(hl:vs.length=d.ps.length)
  (h:wB d.body ⟨T,R,aa T R (k-1),true⟩ { nx:=λ_ H'=>Q .non H',rt:=Q } (λ_=>E) (start d.N vs) H):aa T R k f vs H Q E:=by
 rw[pA]at h⊢;cases k with
 |zero=>exact absurd hk (by decide)
 |succ k=>
  show(match T.fns[f]? with|some d=>_|none=>False);rw[hd];exact⟨hl,h⟩
variable {c:Bool}
def cj {A B:Prop}(h1:c=true->A)(h2:c=false->B):jo c A B:=by
 unfold jo;cases c
 .exact h2 rfl
 .exact h1 rfl
def aG {A B:Prop}(h:c=true)(h1:A):jo c A B:=by subst h;unfold jo;exact h1
def ar {A B:Prop}(h:c=false)(h1:B):jo c A B:=by subst h;unfold jo;exact h1
def Fc {A B:Prop}(h:jo c B A):jo (!c) A B:=by
 unfold jo at h⊢;cases c
 .exact h
 .exact h
def aD {p:Prop} [Decidable p] {A B:Prop}(h1:p->A)(h2:¬ p->B):jo (decide p) A B:=cj (λh=>h1 (of_decide_eq_true h)) λh=>h2 (of_decide_eq_false h)
def aN {i j:Int}{A B:Prop}(h1:i=j->A)(h2:i≠j->B):jo (cH (.int i) (.int j)) A B:=by
 show jo (i ==j) A B;exact cj (λh=>h1 (by simpa using h)) λh=>h2 (by simpa using h)
variable {dx:Addr}{n:Nat}{fs:List (Str×V)}{es:List V}{R:Hp->Prop}{fr:Bool}
section
variable {K:W.Frag}{G:Gx}{O Γ':List aw}{H:Hp}{Q:VK}{a p:Addr}{o:HO}{xs ys:List V}{v w:V}{i:Int}{f:Str}
def al (s:Sep O H)(h:∀ p H',Sep (pt p o::O) H'->Q (.ref p) H'):∀ p,H p=none->Q (.ref p) (upd H p o):=λp hp=>h p _ (s.new hp)
def hU {C x:Addr}(s:Sep O H)(h1:H x=none)(h2:H dx=none)(h3:dx≠x):Sep (pt x (.ins C dx [])::pt dx (.own x)::O) (upd (upd H dx (.own x)) x (.ins C dx [])):=(s.new h2).new (by rw[ak h3.symm];exact h1)
def fS {dx:Option Addr}{E:XK}(s:Sep O H)(r:aK (pt a (.exc (G.R.cad n) dx fs true)) (pt a (.exc (G.R.cad n) dx fs false)) O Γ')(ho:G.T.xc.contains n=true)(h:∀ H',Sep Γ' H'->E a H'):
  ∃ b i dx fs,V.ref a=.ref b/\H b=some (.exc (G.R.cad i) dx fs true)/\G.T.xc.contains i=true/\E b (upd H b (.exc (G.R.cad i) dx fs false)):=by
 obtain⟨Δ,h1,h2⟩:=r.bC;exact⟨a,n,dx,fs,rfl,s.get h1,ho,h _ (s.put r rfl)⟩
def KZ (s:Sep O H)(h:∀ p H',Sep (tu p xs::O) H'->Q (.ref p) H'):∀ p,H p=none->Q (.ref p) (upd H p (.tup xs)):=λp hp=>h p _ (s.mR hp)
def E8 (s:Sep O H)(hl:es.length<=10000)(h:∀ p H',Sep (pt p (.lst es)::O) H'->Q (.ref p) H'):BR es H Q:=by unfold BR;exact⟨hl,al s h⟩
def zA (s:Sep O H)(hl:es.length<=10000)(h:∀ p H',Sep (pt p (.tup es)::O) H'->Q (.ref p) H'):mR es H Q:=by unfold mR;exact⟨hl,al s h⟩
def az (e:H a=some (.lst xs))(hv:kO xs i=some v)(q:Q v H):qK K (.ref a) (.int i) H Q:=by unfold qK;exact .inl ⟨xs,i,v,rfl,.inl (bj.of e),hv,q⟩
def oM (e:H a=some (.tup xs))(hv:kO xs i=some v)(q:Q v H):qK K (.ref a) (.int i) H Q:=by unfold qK;exact .inl ⟨xs,i,v,rfl,.inr (bg.of e),hv,q⟩
def fw {j:Nat}(s:Sep O H)(r:aK (pt a (.lst xs)) (pt a (.lst ys)) O Γ')(hj:vA xs.length i=some j)(hx:xs.set j v=ys)(h:∀ H',Sep Γ' H'->R H'):gi (.ref a) (.int i) v H R:=by
 obtain⟨Δ,h1,h2⟩:=r.bC;subst hx;unfold gi;exact .inl ⟨xs,i,j,rfl,s.get h1,hj,h _ (s.put r rfl)⟩
def G4 (e:H a=some (.lst xs))(h0:0<=i)(hv:xs[i.toNat]? =some v)(q:Q v H):xP K (.ref a) (.int i) H Q:=by unfold xP;exact⟨xs,v,bj.of e,h0,hv,q⟩
def bV (e:H a=some (.ins (G.R.cad n) dx fs))(ho:G.T.oc.contains n=true)(hn:G.T.na.contains (n,f)=true)(hl:fs.lookup f=some v)(q:Q v H):rV G f (.ref a) H Q:=by unfold rV;exact⟨a,n,fs,v,rfl,.inl ⟨ho,dx,e⟩,hn,hl,q⟩
def Hw (e:H a=some (.exc (G.R.cad n) (some dx) fs fr))(ho:G.T.xc.contains n=true)(hn:G.T.na.contains (n,f)=true)(hl:fs.lookup f=some v)(q:Q v H):rV G f (.ref a) H Q:=by unfold rV;exact⟨a,n,fs,v,rfl,.inr ⟨ho,dx,fr,e⟩,hn,hl,q⟩
def Jy {fs':List (Str×V)}(s:Sep O H)(r:aK (pt a (.ins (G.R.cad n) dx fs)) (pt a (.ins (G.R.cad n) dx fs')) O Γ')(ho:G.T.oc.contains n=true)(hn:G.T.na.contains (n,f)=true)(hl:fs.length<1000)(hf:cF f v fs=fs')(h:∀ H',Sep Γ' H'->R H'):Bw G f (.ref a) v H R:=by
 obtain⟨Δ,h1,h2⟩:=r.bC;subst hf;unfold Bw;exact⟨a,n,rfl,hn,.inl ⟨dx,fs,ho,s.get h1,hl,h _ (s.put r rfl)⟩⟩
def Hs {d:Addr}{fs':List (Str×V)}(s:Sep O H)(r:aK (pt a (.exc (G.R.cad n) (some d) fs fr)) (pt a (.exc (G.R.cad n) (some d) fs' fr)) O Γ')(ho:G.T.xc.contains n=true)(hn:G.T.na.contains (n,f)=true)(hl:fs.length<1000)(hf:cF f v fs=fs')(h:∀ H',Sep Γ' H'->R H'):Bw G f (.ref a) v H R:=by
 obtain⟨Δ,h1,h2⟩:=r.bC;subst hf;unfold Bw;exact⟨a,n,rfl,hn,.inr (.inl ⟨d,fs,fr,ho,s.get h1,hl,h _ (s.put r rfl)⟩)⟩
def xX (s:Sep (pt a (.exc (G.R.cad n) none [] fr)::O) H)(ho:G.T.xc.contains n=true)(hn:G.T.na.contains (n,f)=true)(h:∀ d H',Sep (pt a (.exc (G.R.cad n) (some d) [(f,v)] fr)::pt d (.own a)::O) H'->R H'):Bw G f (.ref a) v H R:=by
 unfold Bw;refine⟨a,n,rfl,hn,.inr (.inr ⟨fr,ho,s.at,λd hd=>h d _ ?_⟩)⟩;exact((s.new (o:=.own a) hd).pull (.t .e)).set rfl
def j5 {n t:String}{b:Bool}(ht:tyName v H=some t)(hb:G.T.subB.lookup (t,n)=some b)(q:Q (.bl b) H):lq G (.ty n) v H Q:=by unfold lq;exact .inl ⟨t,b,ht,hb,q⟩
def Il {j:Nat}{b:Bool}(e:H a=some (.ins (G.R.cad j) dx fs))(ho:G.T.oc.contains j=true)(hb:G.T.sub.lookup (j,n)=some b)(q:Q (.bl b) H):lq G (.own n) (.ref a) H Q:=by unfold lq;exact .inr ⟨a,j,b,rfl,.inl ⟨ho,dx,fs,e⟩,hb,q⟩
def jJ (e:H a=some (.lst xs))(q:Q (.int xs.length) H):rY G .len [.ref a] H Q:=by unfold rY;exact⟨_,xs.length,rfl,.inl ⟨xs,bj.of e,rfl⟩,q⟩
def Em {j:Int}(hc:G.cm=true)(q:Q (.int (min i j)) H):rY G .min [.int i,.int j] H Q:=by
 unfold rY;refine⟨hc,.inl ⟨i,j,rfl,?_⟩⟩;have e:(if j<i then j else i)=min i j:=by split<;>omega
 rw[e];exact q
def dw (h0:0<=i)(h1:i<n):vA n i=some i.toNat:=by
 unfold vA;rw[if_pos h0,if_pos h1]
def tF (s:Sep O H)(e:H a=some (.lst xs))(h:∀ p H',Sep (pt p (.lst xs)::O) H'->Q (.ref p) H'):rY G .list [.ref a] H Q:=by unfold rY;exact .inl ⟨_,xs,rfl,.inl (bj.of e),al s h⟩
def EA (s:Sep O H)(e:H a=some (.lst xs))(h:∀ p H',Sep (tu p xs::O) H'->Q (.ref p) H'):rY G .tuple [.ref a] H Q:=by unfold rY;exact⟨_,xs,rfl,.inl ⟨bj.of e,KZ s h⟩⟩
def Gn (s:Sep O H)(e:H a=some (.lst xs))(h1: -1000<=i)(h2:i<=1000)(h3:xs.length<=1000)(h:∀ p H',Sep (pt p (.lst (sn i.toNat xs).flatten)::O) H'->Q (.ref p) H'):Bv K a i H Q:=by unfold Bv;exact .inl ⟨xs,e,h1,h2,h3,al s h⟩
def tS {y:V}(s:Sep O H)(r:aK (pt a (.lst xs)) (pt a (.lst (xs++[y]))) O Γ')(hl:xs.length<=10000)(h:∀ H',Sep Γ' H'->Q .non H'):HW .append a xs [y] H Q:=by unfold HW;exact⟨_,rfl,hl,h _ (s.put r rfl)⟩
def Ji {lo hi:Option Int}(s:Sep O H)(e:bj K H a xs)(h:∀ p H',Sep (pt p (.lst (jw xs lo hi))::O) H'->Q (.ref p) H'):C9 K (.ref a) lo hi H Q:=by unfold C9;exact .inl ⟨xs,e,al s h⟩
def Jm {R:It->Hp->Prop}(e:H a=some (.lst xs))(h:R (Cp K a) H):sj K a H R:=by unfold sj;exact .inl ⟨⟨xs,bj.of e⟩,h⟩
def HR {R:It->Hp->Prop}(e:H a=some (.lst xs))(h:R (GV a) H):BP a H R:=by unfold BP;exact⟨⟨xs,e⟩,h⟩
def JC {lo hi:Option Int}(s:Sep O H)(e:H a=some (.lst xs))(h:∀ p H',Sep (pt p (.lst (jw xs lo hi))::O) H'->Q (.ref p) H'):C9 K (.ref a) lo hi H Q:=by unfold C9;exact .inl ⟨xs,bj.of e,al s h⟩
end
variable {x:V}
section
variable {K:W.Frag}{H:Hp}{Q:VK}
def eT (f:aT x=true):cH x x=true:=by
 cases x<;>simp[aT]at f<;>simp[cH]
def tB {y:V}(fx:aT x=true)(fy:aT y=true)(q:Q (.bl (cH x y)) H):eB K false x y H Q:=by unfold eB;exact⟨0,_,.flat fx fy,by decide,.inl fx,q⟩
def A9 {y:V}(fx:aT x=true)(fy:aT y=true)(q:Q (.bl (!cH x y)) H):eB K true x y H Q:=by unfold eB;exact⟨0,_,.flat fx fy,by decide,.inl fx,q⟩
def sP {b:Addr}(h:dO K H n (.ref a) (.ref b) c)(hn:n<=100)(ne:a≠b)(q:Q (.bl c) H):eB K false (.ref a) (.ref b) H Q:=by unfold eB;exact⟨n,c,h,hn,.inr (.inl λz=>ne (V.ref.inj z)),q⟩
def DK {b:Addr}(h:dO K H n (.ref a) (.ref b) c)(hn:n<=100)(ne:a≠b)(q:Q (.bl (!c)) H):eB K true (.ref a) (.ref b) H Q:=by unfold eB;exact⟨n,c,h,hn,.inr (.inl λz=>ne (V.ref.inj z)),q⟩
def eq_self (h:rZ K H a)(q:Q (.bl true) H):eB K false (.ref a) (.ref a) H Q:=by unfold eB;exact⟨1,true,.same a,by decide,.inr (.inr (.inl ⟨rfl,a,rfl,h⟩)),q⟩
end
variable {rest:St}{te:TE}
section
variable {D:Ends}{F:(St->Hp->Prop)->V->St->Hp->Prop}{U:St}{H:Hp}
def jI {lo:Int}(I:Nat->St->Hp->Prop)(h0:I 0 U H)(hs:∀ j U H,j<n->I j U H->F (I (j+1)) (.int (lo+j)) U H) (hd:∀ U H,I n U H->D.nx U H):lz (C0 lo n) D F U H:=by
 unfold lz;refine⟨λi m U H=>m=n-i/\i<=n/\I i U H,⟨n,by simp,Nat.zero_le _,h0⟩,λi m U H ⟨e,hi,h⟩=>?_⟩
 by_cases hlt:i<n
 .refine .inr ⟨hlt,I (i+1),λσ' H' h'=>⟨n-(i+1),by omega,rfl,hlt,h'⟩,λx H' y=>?_⟩;obtain⟨rfl,rfl⟩:=y;exact hs i U H' hlt h
 .have:i=n:=by omega
  subst this;exact .inl ⟨pi _,hd U H h⟩
def oh {K:W.Frag}(I:Nat->St->Hp->Prop)(h0:I 0 U H)(hl:∀ j U H,I j U H->bj K H a xs)
  (hs:∀ j x U H,xs[j]? =some x->I j U H->F (I (j+1)) x U H) (hd:∀ U H,I xs.length U H->D.nx U H):lz (Cp K a) D F U H:=by
 unfold lz;refine⟨λi m U H=>m=xs.length-i/\i<=xs.length/\I i U H,⟨xs.length,by simp,Nat.zero_le _,h0⟩,λi m U H ⟨e,hi',h⟩=>?_⟩
 by_cases hlt:i<xs.length
 .refine .inr ⟨⟨xs,xs[i],hl i U H h,li hlt⟩,I (i+1),λσ' H' h'=>⟨xs.length-(i+1),by omega,rfl,hlt,h'⟩,λx H' y=>?_⟩;obtain⟨rfl,hy⟩:=y;exact hs i x U H' (hy xs (hl i U H' h)) h
 .have:i=xs.length:=by omega
  subst this;exact .inl ⟨⟨xs,hl _ U H h,pi _⟩,hd U H h⟩
def uG (I:Nat->St->Hp->Prop)(h0:I 0 U H)(hl:∀ j U H,I j U H->H a=some (.lst xs)) (hs:∀ j x T U H,xs[j]? =some x->I j U H->H T=none->F (I (j+1)) (.ref T) U (upd H T (.tup [.int j,x])))
  (hd:∀ U H,I xs.length U H->D.nx U H):lz (GV a) D F U H:=by
 unfold lz;refine⟨λi m U H=>m=xs.length-i/\i<=xs.length/\I i U H,⟨xs.length,by simp,Nat.zero_le _,h0⟩,λi m U H ⟨e,hi',h⟩=>?_⟩
 by_cases hlt:i<xs.length
 .refine .inr ⟨⟨xs,xs[i],hl i U H h,li hlt⟩,I (i+1),λσ' H' h'=>⟨xs.length-(i+1),by omega,rfl,hlt,h'⟩,λx H' y=>?_⟩;obtain⟨T,z,hT,rfl,rfl,hy⟩:=y;exact hs i z T U H (hy xs (hl i U H h)) h hT
 .have:i=xs.length:=by omega
  subst this;exact .inl ⟨⟨xs,hl _ U H h,pi _⟩,hd U H h⟩
@[irreducible] noncomputable def rm (I:Addr->List V->Hp->Prop) (D:Addr) (ys:List V) (rest:St) (x:Option V):VK:=λv H3=>∃ zs,H3 D=some (.lst zs)/\zs.length<bn/\∃ ys2 x2,x::rest=x2::rest/\ys2.length=ys.length+1/\I D ys2 (upd H3 D (.lst (zs++[v])))
def rm.mk {I:Addr->List V->Hp->Prop}{D:Addr}{ys:List V}{x:Option V}{v:V}{H3:Hp}(h1:H3 D=some (.lst ys))(hl:ys.length<=999)(h2:I D (ys++[v]) (upd H3 D (.lst (ys++[v])))):rm I D ys rest x v H3:=
 by unfold rm;exact⟨ys,h1,cR nofun,ys++[v],x,rfl,by simp,h2⟩
def mP (hn:n<=1000)(I:Addr->List V->Hp->Prop)(h0:∀ D,H D=none->I D [] (upd H D (.lst [])))
  (hs:∀ D ys H',ys.length<n->I D ys H'->te (some (.int (0+(ys.length:Nat)))::rest) H' (rm I D ys rest (some (.int (0+(ys.length:Nat))))))
  (hd:∀ D ys H',ys.length=n->I D ys H'->Q (.ref D) H'):wa te (C0 0 n) (none::rest) H Q:=by
 unfold wa;intro D hD;refine⟨λi m σ' H'=>m=n-i/\i<=n/\∃ ys x0,σ'=x0::rest/\ys.length=i/\I D ys H',⟨n,by simp,Nat.zero_le _,[],none,rfl,rfl,h0 D hD⟩,λi m σ' H' ⟨e,hi,ys,x0,e1,e2,h⟩=>?_⟩;subst e1 e2
 by_cases hlt:ys.length<n
 .refine .inr ⟨hlt,λσ2 H2=>∃ ys2 x2,σ2=x2::rest/\ys2.length=ys.length+1/\I D ys2 H2,λσ2 H2 ⟨ys2,x2,f1,f2,f3⟩=>⟨n-(ys.length+1),by omega,rfl,hlt,ys2,x2,f1,f2,f3⟩,λx H'' y=>?_⟩;obtain⟨e1,e2⟩:=y;subst e1 e2;have z:=hs D ys H'' hlt h;unfold rm at z;exact z
 .have:ys.length=n:=by omega
  exact .inl ⟨Nat.le_of_eq this.symm,hd D ys H' this h⟩
def xI {K:W.Frag}(hn:xs.length<=1000)(I:Addr->List V->Hp->Prop)(hl:∀ D ys H,I D ys H->bj K H a xs) (h0:∀ D,H D=none->I D [] (upd H D (.lst [])))
  (hs:∀ D ys x H',xs[ys.length]? =some x->I D ys H'->te (some x::rest) H' (rm I D ys rest (some x)))
  (hd:∀ D ys H',ys.length=xs.length->I D ys H'->Q (.ref D) H'):wa te (Cp K a) (none::rest) H Q:=by
 unfold wa;intro D hD;refine⟨λi m σ' H'=>m=xs.length-i/\i<=xs.length/\∃ ys x0,σ'=x0::rest/\ys.length=i/\I D ys H',⟨xs.length,by simp,Nat.zero_le _,[],none,rfl,rfl,h0 D hD⟩,λi m σ' H' ⟨e,hi,ys,x0,e1,e2,h⟩=>?_⟩;subst e1 e2
 by_cases hlt:ys.length<xs.length
 .refine .inr ⟨⟨xs,xs[ys.length],hl D ys H' h,li hlt⟩,λσ2 H2=>∃ ys2 x2,σ2=x2::rest/\ys2.length=ys.length+1/\I D ys2 H2,λσ2 H2 ⟨ys2,x2,f1,f2,f3⟩=>⟨xs.length-(ys.length+1),by omega,rfl,hlt,ys2,x2,f1,f2,f3⟩,λx H'' y=>?_⟩;obtain⟨e1,hy⟩:=y;subst e1;have z:=hs D ys x H'' (hy xs (hl D ys H'' h)) h;unfold rm at z;exact z
 .have:ys.length=xs.length:=by omega
  exact .inl ⟨⟨xs,hl D ys H' h,Nat.le_of_eq this.symm⟩,hd D ys H' this h⟩
def g8 (q:Q (.bl (decide (x=.non))) H):ui false x .non H Q:=by unfold ui;exact q
def bH (q:Q (.bl (!decide (x=.non))) H):ui true x .non H Q:=by unfold ui;exact q
def Ez (q:Q (.bl c) H):ui false (.bl c) (.bl true) H Q:=by unfold ui;exact⟨c,rfl,q⟩
def Am (q:Q (.bl (!c)) H):ui true (.bl c) (.bl true) H Q:=by unfold ui;exact⟨c,rfl,q⟩
def fX {K:W.Frag}(e:bg K H a xs)(fx:aT x=true)(fs:xs.all aT=true)(q:Q (.bl (F3 x xs)) H):G8 K false x (.ref a) H Q:=by unfold G8;exact .inl ⟨xs,.inr e,fx,fs,q⟩
end
variable {kvs:List (Key×V)}{k:Key}
section
variable {K:W.Frag}{G:Gx}{O Γ':List aw}{H:Hp}{Q:VK}{a b:Addr}{xs ys:List V}{v:V}
def Js {tp1 tp2:Bool}{R:It->Hp->Prop}(h1:Sq K tp1 H a xs)(h2:Sq K tp2 H b ys)(h:R (IP K tp1 a tp2 b) H):A8 K (.ref a) (.ref b) H R:=by unfold A8;exact⟨tp1,a,tp2,b,rfl,rfl,⟨xs,h1⟩,⟨ys,h2⟩,h⟩
def AQ {D:Ends}{F:(St->Hp->Prop)->V->St->Hp->Prop}{U:St}{tp1 tp2:Bool}(I:Nat->St->Hp->Prop)(hn:xs.length=ys.length)(h0:I 0 U H)(hl:∀ j U H,I j U H->Sq K tp1 H a xs/\Sq K tp2 H b ys)
  (hs:∀ j x y T U H,xs[j]? =some x->ys[j]? =some y->I j U H->H T=none->F (I (j+1)) (.ref T) U (upd H T (.tup [x,y]))) (hd:∀ U H,I xs.length U H->D.nx U H):lz (IP K tp1 a tp2 b) D F U H:=by
 unfold lz;refine⟨λi m U H=>m=xs.length-i/\i<=xs.length/\I i U H,⟨xs.length,by simp,Nat.zero_le _,h0⟩,λi m U H ⟨e,hi',h⟩=>?_⟩
 by_cases hlt:i<xs.length
 .obtain⟨g1,g2⟩:=hl i U H h;refine .inr ⟨⟨xs,ys,xs[i],ys[i]'(hn▸hlt),g1,g2,li hlt,li (hn▸hlt)⟩,I (i+1),λσ' H' h'=>⟨xs.length-(i+1),by omega,rfl,hlt,h'⟩,λx H' y=>?_⟩;obtain⟨T,z,z',hT,rfl,rfl,hy,hy'⟩:=y;exact hs i z z' T U H (hy xs g1) (hy' ys g2) h hT
 .have:i=xs.length:=by omega
  subst this;obtain⟨g1,g2⟩:=hl _ U H h;exact .inl ⟨⟨xs,ys,g1,g2,.inl (pi _)⟩,hd U H h⟩
def GC {tp1 tp2:Bool}{ks:List Key}(s:Sep O H)(h1:Sq K tp1 H a (ks.map kV))(h2:Sq K tp2 H b ys)(hn:ks.Nodup)(hl:ks.length=ys.length)(hz:ks.length<=1000)(h:∀ p H',Sep (pt p (.dK (ks.zip ys))::O) H'->Q (.ref p) H'):GX K (.ref a) (.ref b) H Q:=by unfold GX;exact⟨tp1,a,tp2,b,ks,ys,rfl,rfl,h1,h2,hn,hl,hz,al s h⟩
def qC (e:H a=some (.dK kvs))(hv:fm kvs k=some v)(q:Q v H):qK K (.ref a) (kV k) H Q:=by unfold qK;exact .inr ⟨v,.inl ⟨kvs,k,.inl e,rfl,hv.symm⟩,q⟩
def t9 {kvs':List (Key×V)}(s:Sep O H)(r:aK (pt a (.dK kvs)) (pt a (.dK kvs')) O Γ')(hl:kvs.length<=10000)(hx:putK kvs k v=kvs')(h:∀ H',Sep Γ' H'->R H'):gi (.ref a) (kV k) v H R:=by
 obtain⟨Δ,h1,h2⟩:=r.bC;subst hx;unfold gi;exact .inr ⟨_,.inl ⟨kvs,k,s.get h1,rfl,Nat.lt_of_le_of_lt hl (by decide),rfl⟩,h _ (s.put r rfl)⟩
def Ar (s:Sep O H)(e:H a=some (.dK kvs))(h:∀ p H',Sep (pt p (.dK kvs)::O) H'->Q (.ref p) H'):rY G .dict [.ref a] H Q:=by unfold rY;exact⟨_,kvs,rfl,e,al s h⟩
def Dt (hn:xs.length<=1000)(I:Addr->List V->Hp->Prop)(hl:∀ D ys H,I D ys H->bg K H a xs) (h0:∀ D,H D=none->I D [] (upd H D (.lst [])))
  (hs:∀ D ys x H',xs[ys.length]? =some x->I D ys H'->te (some x::rest) H' (rm I D ys rest (some x)))
  (hd:∀ D ys H',ys.length=xs.length->I D ys H'->Q (.ref D) H'):wa te (Gk K a) (none::rest) H Q:=by
 unfold wa;intro D hD;refine⟨λi m σ' H'=>m=xs.length-i/\i<=xs.length/\∃ ys x0,σ'=x0::rest/\ys.length=i/\I D ys H',⟨xs.length,by simp,Nat.zero_le _,[],none,rfl,rfl,h0 D hD⟩,λi m σ' H' ⟨e,hi,ys,x0,e1,e2,h⟩=>?_⟩;subst e1 e2
 by_cases hlt:ys.length<xs.length
 .refine .inr ⟨⟨xs,xs[ys.length],hl D ys H' h,li hlt⟩,λσ2 H2=>∃ ys2 x2,σ2=x2::rest/\ys2.length=ys.length+1/\I D ys2 H2,λσ2 H2 ⟨ys2,x2,f1,f2,f3⟩=>⟨xs.length-(ys.length+1),by omega,rfl,hlt,ys2,x2,f1,f2,f3⟩,λx H'' y=>?_⟩;obtain⟨e1,hy⟩:=y;subst e1;have z:=hs D ys x H'' (hy xs (hl D ys H'' h)) h;unfold rm at z;exact z
 .have:ys.length=xs.length:=by omega
  exact .inl ⟨⟨xs,hl D ys H' h,Nat.le_of_eq this.symm⟩,hd D ys H' this h⟩
def Gi {R:It->Hp->Prop}(e:bg K H a xs)(h:R (Gk K a) H):sj K a H R:=by unfold sj;exact .inr ⟨⟨xs,e⟩,h⟩
def JE {p:Addr}{w:V}(e:H p=some (.dK kvs))(q:Q ((fm kvs k).getD w) H):Ai p (kV k) w H Q:=by unfold Ai;exact⟨kvs,k,e,rfl,q⟩
def Kh {p:Addr}{y:V}{j:Nat}(e:V->Bool)(h1:H p=some (.lst xs))(hl:xs.length<=10000)(he:∀ x ∈ xs,∃ n,n<=100/\dO K H n x y (e x)) (hj:xs[j]? =some x) (ej:e x=true) (hm:∀ (m:Nat) x,m<j->xs[m]? =some x->e x=false) (q:Q (.int (j:Int)) H):w4 K p y H Q:=by unfold w4;exact⟨xs,e,j,x,h1,hl,he,hj,ej,hm,q⟩
def vp {C:Addr}(s:Sep O H)(h:∀ x dx H',Sep (pt x (.ins C dx [])::pt dx (.own x)::O) H'->Q (.ref x) H'):wZ C H Q:=by unfold wZ;exact λx dx h1 h2 h3=>h x dx _ (hU s h1 h2 h3)
end
end L3
namespace L3
open PySem PySem.Spec PySem.W L2
variable {ps:List Str}
def zm:∀ {us:List Value}{n:Str},us.length=ps.length->n ∈ ps->((ps.zip us).lookup n).isNone=false:=by
 induction ps with
 |nil=>intro us n _ h;cases h
 |cons p ps ih=>
  intro us n hl h;cases us with
  |nil=>cases hl
  |cons u us=>
   rw[zip_cons_cons,lookup_cons];cases e:n ==p with
   |true=>rfl
   |false=>
    rcases mo.mp h with rfl|h
    .rw[beq_self_eq_true]at e;cases e
    .exact ih (Nat.succ.inj hl) h
def qQ:∀ {ps:List Str}{us:List Value},ps.Nodup->us.length=ps.length->∀ {L:List (Str×Value)},(∀ n ∈ ps,L.lookup n=(ps.zip us).lookup n)->ps.filterMap (λn=>(L.lookup n).map (n,·))=ps.zip us
 | [],us,_,_,L,_=>rfl
 |p::ps,[],_,hl,L,_=>by cases hl
 |p::ps,u::us,nd,hl,L,hL=>by
  have h0:L.lookup p=some u:=by rw[hL p lw,zip_cons_cons,lookup_cons,beq_self_eq_true]
  rw[filterMap_cons,h0,zip_cons_cons];show(p,u)::_=_;rw[qQ (nodup_cons.mp nd).2 (Nat.succ.inj hl) (L:=L)];intro n hn;rw[hL n (dl _ hn),zip_cons_cons,lookup_cons];have:(n ==p)=false:=by
   cases e:n ==p with
   |false=>rfl
   |true=>
    have:=beq_iff_eq.mp e;subst this;exact absurd hn (nodup_cons.mp nd).1
  rw[this]
variable {fd:FuncData}
def pX (nd:ps.Nodup)(h1:fd.params.posonlyargs=[])(h2:fd.params.args.map (·.arg)=ps)(h3:fd.params.kwonlyargs=[])(h4:fd.params.vararg=none)(h5:fd.params.kwarg=none)(h6:fd.defaults=.none)(us:List Value)(hl:us.length=ps.length):
  bindArgs fd ⟨us,[]⟩=pure (ps.zip us):=by
 obtain⟨name,qual,⟨po,as,va,ko,kd,ka,df⟩,body,scope,glo,bX,dV,kV,doc,pm,an,cdv,ct,bu⟩:=fd;dsimp only at h1 h2 h3 h4 h5 h6;subst h1 h2 h3 h4 h5 h6;generalize hps:as.map (·.arg)=ps at nd hl⊢;have e1:seqItems? (Value.none)=(pure none:Sem (Option (Array Value))):=rfl;have e2:∀ f:Str->Bool,(∀ n ∈ ps,f n=false)->ps.filter f=[]:=λf h=>List.filter_eq_nil_iff.mpr λa ha=>by rw[h a ha];decide
 have e3:¬ (us.length>ps.length):=by omega
 have e4:=e2 (λn=>((ps.zip us).lookup n).isNone) λn hn=>zm hl hn
 have e5:=qQ nd hl (L:=ps.zip us) λ_ _=>rfl
 unfold bindArgs;dsimp only[List.map_nil,nil_append,append_nil];rw[hps];simp[e1,e3,e4,e5]
abbrev gD (S:List (Str×Value))(x:Str×Value):List (Str×Value):=if(S.lookup x.1).isNone=true then S++[x] else S
def CC:∀ {L:List (Str×Value)}{S:List (Str×Value)},(∀ x ∈ L,(S.lookup x.1).isNone=false)->L.foldl gD S=S
 | [],_,_=>rfl
 |x::L,S,h=>by
  have h0:gD S x=S:=by
   unfold gD;rw[if_neg (by rw[h x lw];decide)]
  rw[foldl_cons,h0];exact CC λy hy=>h y (dl _ hy)
def CU:∀ {L:List (Str×Value)}{S:List (Str×Value)},(L.map (·.1)).Nodup->(∀ x ∈ L,S.lookup x.1=none)->L.foldl gD S=S++L
 | [],S,_,_=>by rw[append_nil];rfl
 |x::L,S,nd,h=>by
  have h0:gD S x=S++[x]:=by
   unfold gD;rw[if_pos (by rw[h x lw];rfl)]
  rw[map_cons]at nd;rw[foldl_cons,h0,CU (nodup_cons.mp nd).2]
  .rw[jp];rfl
  .intro y hy;have hne:(y.1 ==x.1)=false:=by
    cases e:y.1 ==x.1 with
    |false=>rfl
    |true=>
     have e:=beq_iff_eq.mp e;exact absurd (List.mem_map_of_mem (f:=(·.1)) hy) (e▸(nodup_cons.mp nd).1)
   obtain⟨a,b⟩:=x;rw[List.lookup_append,h y (dl _ hy),lookup_cons,hne]
   rfl
def CZ {n:Str}:∀ {L:List (Str×Value)},(∀ x ∈ L,x.1≠n)->L.lookup n=none
 | [],_=>rfl
 |(a,b)::L,h=>by
  have:(n ==a)=false:=by
   cases e:n ==a with
   |false=>rfl
   |true=>exact absurd (beq_iff_eq.mp e).symm (h (a,b) lw)
  rw[lookup_cons,this];exact CZ λx hx=>h x (dl _ hx)
variable {A:List Str}{B:List Value}
def mZ {x:Str×Value}(h:x ∈ A.zip B):x.1 ∈ A:=by
 obtain⟨a,b⟩:=x;exact(of_mem_zip h).1
def zip_map (h:A.length<=B.length):(A.zip B).map (·.1)=A:=List.map_fst_zip h
def nA {B:List Str}{us:List Value}(h:A.length=us.length):(A++B).zip us=A.zip us:=by
 have:=zip_append (l₁:=A) (l₂:=us) (r₁:=B) (r₂:=[]) h;rw[append_nil,List.zip_nil_right,append_nil]at this;exact this
def AX {B:List Str}{us D1 D2:List Value}(nd:(A++B).Nodup)(h1:A.length=us.length)(h2:B.length=D2.length)(h3:D1.length<=A.length):
  (((A++B).drop (A.length-D1.length)).zip (D1++D2)).foldl gD ((A++B).zip us)=(A++B).zip (us++D2):=by
 have a:=CC (L:=(A.drop (A.length-D1.length)).zip D1) (S:=(A++B).zip us) λx hx=>by
  rw[nA h1];exact zm h1.symm (List.mem_of_mem_drop (mZ hx))
 have b:=CU (L:=B.zip D2) (S:=(A++B).zip us) (by rw[zip_map nofun];exact(List.nodup_append.mp nd).2.1) λx hx=>by
  refine CZ λy hy e=>?_
  rw[nA h1]at hy;exact(List.nodup_append.mp nd).2.2 y.1 (mZ hy) x.1 (mZ hx) e
 rw[List.drop_append_of_le_length nofun,zip_append (by rw[io];omega),List.foldl_append,a,b,nA h1,zip_append h1]
def xl {us ds:List Value}(nd:ps.Nodup)(h1:us.length<=ps.length)(h2:ds.length<=ps.length)(h3:ps.length<=us.length+ds.length):
  ((ps.drop (ps.length-ds.length)).zip ds).foldl gD (ps.zip us)=ps.zip (us++ds.drop (us.length+ds.length-ps.length)):=by
 have nd2:(ps.take us.length++ps.drop us.length).Nodup:=by rw[take_append_drop];exact nd
 have:=AX (A:=ps.take us.length) (B:=ps.drop us.length) (us:=us) (D1:=ds.take (us.length+ds.length-ps.length)) (D2:=ds.drop (us.length+ds.length-ps.length)) nd2 (by rw[db];omega) (by rw[io,io];omega) (by rw[db,db];omega);rw[take_append_drop,take_append_drop,db,db]at this;rw[show min us.length ps.length-min (us.length+ds.length-ps.length) ds.length=ps.length-ds.length by omega]at this;exact this
def pI:∀ {L:List (Str×Value)}{S:List (Str×Value)},(forIn L S λx r=>(match x with|(name,d)=>if(r.lookup name).isNone=true then pure (ForInStep.yield (r++[(name,d)])) else pure (ForInStep.yield r):Sem (ForInStep (List (Str×Value)))))=pure (L.foldl gD S)
 | [],S=>by simp
 |(a,b)::L,S=>by
  rw[forIn_cons,foldl_cons,<-pI];unfold gD
  by_cases e:(S.lookup a).isNone=true
  .simp only[e,if_true,pure_bind]
  .simp only[e,if_false,pure_bind,Bool.false_eq_true]
def zL {T:Addr}{items:Array Value}(nd:ps.Nodup)(h1:fd.params.posonlyargs=[])(h2:fd.params.args.map (·.arg)=ps)(h3:fd.params.kwonlyargs=[])(h4:fd.params.vararg=none)(h5:fd.params.kwarg=none)(h6:fd.defaults=.ref T)(us:List Value)(l1:us.length<=ps.length)(l2:items.toList.length<=ps.length)(l3:ps.length<=us.length+items.toList.length):
  ∃ k:Option (Array Value)->Sem (List (Str×Value)),bindArgs fd ⟨us,[]⟩=seqItems? fd.defaults >>= k/\k (some items)=pure (ps.zip (us++items.toList.drop (us.length+items.toList.length-ps.length))):=by
 obtain⟨name,qual,⟨po,as,va,ko,kd,ka,df⟩,body,scope,glo,bX,dV,kV,doc,pm,an,cdv,ct,bu⟩:=fd;dsimp only at h1 h2 h3 h4 h5 h6;subst h1 h2 h3 h4 h5 h6;generalize hps:as.map (·.arg)=ps at nd l1 l2 l3⊢;have e2:∀ f:Str->Bool,(∀ n ∈ ps.take (ps.length-items.toList.length),f n=false)->(ps.take (ps.length-items.toList.length)).filter f=[]:=λf h=>List.filter_eq_nil_iff.mpr λa ha=>by rw[h a ha];decide
 have e3:¬ (us.length>ps.length):=by omega
 have ez:ps.zip us=(ps.take us.length).zip us:=by
  have:=nA (A:=ps.take us.length) (B:=ps.drop us.length) (us:=us) (by rw[db];omega);rw[take_append_drop]at this;exact this
 have e4:=e2 (λn=>((ps.zip us).lookup n).isNone) λn hn=>by
  rw[ez];refine zm (by rw[db];omega) ?_;have:ps.take (ps.length-items.toList.length)=(ps.take us.length).take (ps.length-items.toList.length):=by rw[List.take_take,Nat.min_eq_left nofun]
  rw[this]at hn;exact List.mem_of_mem_take hn
 have e6:=xl (us:=us) (ds:=items.toList) nd l1 l2 l3;have e5:=qQ (us:=us++items.toList.drop (us.length+items.toList.length-ps.length)) nd (by rw[ci,io];omega) λ_ _=>rfl
 have e7:items.toList.length-ps.length=0:=by omega
 unfold bindArgs;dsimp only[List.map_nil,nil_append,append_nil];rw[hps];refine⟨_,rfl,?_⟩;simp only[Option.getD_some,List.map_nil,nil_append,e7,drop_zero,e4,e3,List.isEmpty_nil,Bool.not_true,decide_false,Bool.false_and,Bool.false_eq_true,if_false,forIn_nil,append_nil];rw[pI,e6,pure_bind,pure_bind];simp only[e5,List.isEmpty_nil,Bool.not_true,Bool.false_eq_true,if_false]
abbrev CK (x:Option (Option Value))(a:Addr):Bool:=match x with
 |some (some (.ref b))=>b ==a
 |_=>false
variable {x:Option (Option Value)}
def f7 {a:Addr}(h:CK x a=true):x=some (some (.ref a)):=by
 unfold CK at h
 split at h
 .rw[beq_iff_eq.mp h]
 .cases h
abbrev uh (x:Option (Option Value))(a:String):Bool:=match x with
 |some (some (.builtin b))=>b ==a
 |_=>false
variable {a:String}
def cq (h:uh x a=true):x=some (some (.builtin a)):=by
 unfold uh at h
 split at h
 .rw[beq_iff_eq.mp h]
 .cases h
abbrev JI (x:Option Value)(a:String):Bool:=match x with
 |some (.type b)=>b ==a
 |_=>false
def DO {x:Option Value}(h:JI x a=true):x=some (.type a):=by
 unfold JI at h
 split at h
 .rw[beq_iff_eq.mp h]
 .cases h
abbrev yu (x:Option (Option Value)):Bool:=match x with
 |some none=>true
 |_=>false
def nu (h:yu x=true):x=some none:=by
 unfold yu at h
 split at h
 .rfl
 .cases h
abbrev BG (x:Option Bool)(b:Bool):Bool:=match x with
 |some c=>c ==b
 |none=>false
def dW {x:Option Bool}{b:Bool}(h:BG x b=true):x=some b:=by
 unfold BG at h
 split at h
 .rw[beq_iff_eq.mp h]
 .cases h
abbrev Kj (v:V)(x:Option (Option Value)):Bool:=match v,x with
 | .int i,some (some (.int j _))=>i ==j
 | .str s,some (some (.str s' _))=>s ==s'
 | .ref a,y=>CK y a
 |_,_=>false
def EK {v:V}(h:Kj v x=true):∃ u,x=some (some u)/\RelV v u:=by
 unfold Kj at h
 split at h
 .rw[<-beq_iff_eq.mp h];exact⟨_,rfl,_,rfl⟩
 .rw[<-beq_iff_eq.mp h];exact⟨_,rfl,_,rfl⟩
 .rw[f7 h];exact⟨_,rfl,rfl⟩
 .cases h
section
variable (K:Frag) (C:Addr)
abbrev AV:Bool:=plainGet K C Str.empty&&(hasDictIn K C&&(plainOver K C&&uh (findIn K (.ref C) "__setattr__") "object.__setattr__"))
def uu {K:Frag}{C:Addr}(h:AV K C=true):Cg K C:=by
 unfold AV at h;simp only[nb]at h;exact⟨h.1,h.2.1,h.2.2.1,cq h.2.2.2⟩
abbrev Cd:Bool:=uh (findIn K (.ref C) "__class__") "object.__class__"&&(uh (specialIn K (.builtin "object.__class__") "__get__") "getset_descriptor.__get__"&&BG (takesIn K (.builtin "object.__class__")) true)
abbrev qc:Bool:=JI (typeIn K (.ref C)) "type"&&((clsIn K C).any (λcd=>dz cd.mro)&&(hasDictIn K C&&(uh (findIn K (.ref C) "__getattribute__") "BaseException.__getattribute__"&&(yu (findIn K (.ref C) "__getattr__")&&uh (findIn K (.ref C) "__setattr__") "object.__setattr__"))))
def kR {K:Frag}{C:Addr}(h:qc K C=true):cG K C:=by
 unfold qc at h;simp only[nb]at h;exact⟨DO h.1,h.2.1,h.2.2.1,cq h.2.2.2.1,nu h.2.2.2.2.1,cq h.2.2.2.2.2⟩
end
abbrev all2 {α:Type}(l:List α)(p:α->Bool):Bool:=match l with
 | []=>true
 |a::r=>p a&&all2 r p
def aC {α:Type}{p:α->Bool}:∀ {l:List α},all2 l p=true->∀ a ∈ l,p a=true
 | [],_,_,h=>by cases h
 |a::r,h,b,hb=>by
  unfold all2 at h;rw[nb]at h;rcases mo.mp hb with rfl|hb
  .exact h.1
  .exact aC h.2 b hb
abbrev DT (K:Frag)(fs cs:List Addr)(gs:List (Str×V)):Rt:=⟨K,λi=>fs.getD i 0,λi=>cs.getD i 0,λx=>gs.lookup x⟩
section
variable (K:Frag) (T:Tab) (fs cs:List Addr) (gs:List (Str×V))
abbrev AR:Bool:=
 (all2 T.gfn (λp=>CK (nsIn K mainGlobals p.1) (fs.getD p.2 0)&&(keepIn K (.ref (fs.getD p.2 0))&&(T.fns[p.2]?).isSome))&&
 (all2 T.gcl (λp=>CK (nsIn K mainGlobals p.1) (cs.getD p.2 0))&&
 (all2 T.gbl (λx=>yu (nsIn K mainGlobals x)&& !(x ==("__name__":Str)))&&
 (all2 T.gbi (λx=>match nsIn K mainGlobals x with
  |some (some (.ref B))=>uh (specialIn K (.ref B) "__getattribute__") "type.__getattribute__"&&(readsIn K B (.type "type")&&(match findCls K (.ref B) (.type "type") "__init__" with|some (.val (.builtin n))=>n =="ValueError.__init__"|_=>false))
  |_=>false)&&
 (all2 gs (λp=>Kj p.2 (nsIn K mainGlobals p.1))&&
 (all2 T.na (λp=>yu (findIn K (.ref (cs.getD p.1 0)) p.2))&&
 (all2 T.me (λp=>AV K (cs.getD p.1.1 0)&&(CK (findIn K (.ref (cs.getD p.1.1 0)) p.1.2) (fs.getD p.2 0)&&(isFn K (.ref (fs.getD p.2 0))&&(keepIn K (.ref (fs.getD p.2 0))&&(T.fns[p.2]?).isSome)))))))))))&&
 (all2 T.ini0 (λc=>bU K (cs.getD c 0)&&(uh (findIn K (.ref (cs.getD c 0)) "__init__") "ValueError.__init__"&&(keepIn K (.ref (cs.getD c 0))&&qc K (cs.getD c 0))))&&
 (all2 T.inip (λc=>makesIn K (cs.getD c 0)&&(uh (findIn K (.ref (cs.getD c 0)) "__init__") "object.__init__"&&keepIn K (.ref (cs.getD c 0))))&&
 (all2 T.ini (λp=>(T.fns[p.2]?).isSome&&((if T.xc.contains p.1=true then bU K (cs.getD p.1 0) else makesIn K (cs.getD p.1 0))&&(CK (findIn K (.ref (cs.getD p.1 0)) "__init__") (fs.getD p.2 0)&&(isFn K (.ref (fs.getD p.2 0))&&keepIn K (.ref (cs.getD p.1 0))))))&&
 (all2 T.oc (λc=>AV K (cs.getD c 0)&&(Cd K (cs.getD c 0)&&BG (mroIn K (cs.getD c 0) (.type "object")) true))&&
 (all2 T.xc (λc=>qc K (cs.getD c 0)&&Cd K (cs.getD c 0))&&
 (all2 T.sub (λp=>BG (kitOne K (.ref (cs.getD p.1.1 0)) (.ref (cs.getD p.1.2 0))) p.2&&(!T.xc.contains p.1.1||(BG (mroIn K (cs.getD p.1.1 0) (.ref (cs.getD p.1.2 0))) p.2&&qc K (cs.getD p.1.2 0))))&&
 (all2 T.subT (λp=>BG (kitOne K (.ref (cs.getD p.1.1 0)) (.type p.1.2)) p.2)&&
 (all2 T.subB (λp=>BG (kitOne K (.type p.1.1) (.type p.1.2)) p.2)&&
 (all2 T.subO (λp=>BG (kitOne K (.type p.1.1) (.ref (cs.getD p.1.2 0))) p.2)&&
  all2 T.cin (λp=>uh (specialIn K (.ref (cs.getD p.1 0)) "__getattribute__") "type.__getattribute__"&&(readsIn K (cs.getD p.1 0) (.type "type")&&((match findCls K (.ref (cs.getD p.1 0)) (.type "type") "__init__" with|some (.val (.ref f))=>f ==fs.getD p.2 0|_=>false)&&(keepIn K (.ref (fs.getD p.2 0))&&(T.fns[p.2]?).isSome)))))))))))))
end
def jL {α:Type}{x:Option α}(h:x.isSome=true):∃ d,x=some d:=Option.isSome_iff_exists.mp h
variable {K:Frag}{T:Tab}{fs:List Addr}{gs:List (Str×V)}{mg:LG}
def Ck {cs:List Addr}{h:Heap}(X:K.In h)(G:h.Ns mainGlobals mg)(z:AR K T fs cs gs=true):Bq K mg T (DT K fs cs gs):=by
 unfold AR at z;simp only[nb]at z;obtain⟨⟨z1,z2,z3,z4,z5,z6,z7⟩,z8,z9,z10,z11,z12,z13,z14,z15,z16,z17⟩:=z;exact {
  gfn:=jT λp hp=>by
   have:=aC z1 p hp;simp only[nb]at this;exact⟨mg_of X G (f7 this.1),this.2.1,jL this.2.2⟩
  gcl:=jT λp hp=>mg_of X G (f7 (aC z2 p hp))
  gbl:=iz λx hx=>by
   have:=aC z3 x hx;simp only[nb]at this;exact⟨mg_none_of X G (nu this.1),by simpa using this.2⟩
  gbi:=iz λx hx=>by
   have:=aC z4 x hx
   split at this
   .rename_i B e;simp only[nb]at this;refine⟨B,mg_of X G e,cq this.1,this.2.1,?_⟩;have t:=this.2.2
    split at t
    .rename_i n e2;rw[e2,beq_iff_eq.mp t]
    .cases t
   .cases this
  gl:=jT λp hp=>by
   obtain⟨u,e,r⟩:=EK (aC z5 p hp);exact⟨u,mg_of X G e,r⟩
  na:=Ci λp hp=>nu (aC z6 p hp)
  me:=gB λp hp=>by
   have:=aC z7 p hp;simp only[nb]at this;exact⟨uu this.1,⟨f7 this.2.1,this.2.2.1,this.2.2.2.1⟩,jL this.2.2.2.2⟩
  ini0:=iz λc hc=>by
   have:=aC z8 c hc;simp only[nb]at this;exact⟨this.1,cq this.2.1,this.2.2.1,kR this.2.2.2⟩
  inip:=iz λc hc=>by
   have:=aC z9 c hc;simp only[nb]at this;exact⟨this.1,cq this.2.1,this.2.2⟩
  ini:=jT λp hp=>by
   have:=aC z10 p hp;simp only[nb]at this;refine⟨jL this.1,?_⟩;have t:=this.2
   by_cases e:T.xc.contains p.1=true
   .rw[if_pos e]at t⊢;exact⟨t.1,f7 t.2.1,t.2.2.1,t.2.2.2⟩
   .rw[if_neg e]at t⊢;exact⟨t.1,f7 t.2.1,t.2.2.1,t.2.2.2⟩
  oc:=iz λc hc=>by
   have:=aC z11 c hc;simp only[Cd,nb]at this;exact⟨uu this.1,cq this.2.1.1,cq this.2.1.2.1,dW this.2.1.2.2,dW this.2.2⟩
  xc:=iz λc hc=>by
   have:=aC z12 c hc;simp only[Cd,nb]at this;exact⟨kR this.1,cq this.2.1,cq this.2.2.1,dW this.2.2.2⟩
  sub:=gB λp hp=>by
   have:=aC z13 p hp;simp only[nb]at this;refine⟨dW this.1,λe=>?_⟩;have t:=this.2;rw[e,Bool.not_true,Bool.false_or,nb]at t;exact⟨dW t.1,kR t.2⟩
  subT:=gB λp hp=>dW (aC z14 p hp)
  subB:=gB λp hp=>dW (aC z15 p hp)
  subO:=gB λp hp=>dW (aC z16 p hp)
  cin:=jT λp hp=>by
   have:=aC z17 p hp;simp only[nb]at this;refine⟨⟨cq this.1,this.2.1,?_,this.2.2.2.1⟩,jL this.2.2.2.2⟩;have t:=this.2.2.1
   split at t
   .rename_i f e2;rw[beq_iff_eq.mp t]at e2;exact e2
   .cases t }
abbrev IY:List Str->Bool
 | []=>true
 |a::r=>!r.contains a&&IY r
def xD:∀ {l:List Str},IY l=true->l.Nodup
 | [],_=>List.nodup_nil
 |a::r,h=>by
  unfold IY at h;rw[nb]at h;exact nodup_cons.mpr ⟨by simpa using h.1,xD h.2⟩
abbrev Jl (N P:List Str)(sc:Scope):Bool:=decide (sc.kind=.function)&&(!sc.isCoroutine&&(!sc.isGenerator&&(IY N&&(N.take P.length ==P&&(all2 P (λx=>match sc.names.lookup x with|some .local=>true|some .cell=>true|_=>false)&&all2 sc.names (λy=>match y.2 with| .free=>false|_=>true))))))
def qS {N P:List Str}{sc:Scope}(h:Jl N P sc=true):jK N P sc:=by
 unfold Jl at h;simp only[nb,decide_eq_true_eq]at h;refine⟨h.1,by simpa using h.2.1,by simpa using h.2.2.1,xD h.2.2.2.1,beq_iff_eq.mp h.2.2.2.2.1,λx hx=>?_,λy hy e=>?_⟩
 .have:=aC h.2.2.2.2.2.1 x hx
  split at this
  .rename_i e;exact .inl e
  .rename_i e;exact .inr e
  .cases this
 .have:=aC h.2.2.2.2.2.2 y hy;rw[e]at this;cases this
abbrev JV:V->Value->Bool
 | .non,.none=>true
 | .bl b,.bool c=>b ==c
 | .int i,.int j _=>i ==j
 | .str s,.str s' _=>s ==s'
 |_,_=>false
def Fv {v:V}{u:Value}(h:JV v u=true):RelV v u:=by
 unfold JV at h
 split at h
 .rfl
 .rw[beq_iff_eq.mp h];rfl
 .rw[beq_iff_eq.mp h];exact⟨_,rfl⟩
 .rw[beq_iff_eq.mp h];exact⟨_,rfl⟩
 .cases h
abbrev zf:List V->List Value->Bool
 | [],[]=>true
 |v::vs,u::us=>JV v u&&zf vs us
 |_,_=>false
def nB:∀ {vs:List V}{us:List Value},zf vs us=true->Vals vs us
 | [],[],_=>.nil
 |v::vs,u::us,h=>by
  unfold zf at h;rw[nb]at h;exact .cons (Fv h.1) (nB h.2)
 | [],_::_,h=>by cases h
 |_::_,[],h=>by cases h
abbrev JD (K:Frag)(fd:FuncData)(d:au):Bool:=match fd.defaults with
 | .none=>d.dfl.isEmpty
 | .ref T=>!d.dfl.isEmpty&&(match K.lookup T with
  |some o=>(match o.data with| .seq items _=>zf d.dfl items.toList&&decide (items.toList.length<=d.ps.length)|_=>false)
  |none=>false)
 |_=>false
abbrev C7 (K:Frag)(T:Tab)(f:Addr)(d:au):Bool:=match K.lookup f with
 |some ⟨_,_,.func fd,_⟩=>(match fd.body with
  | .stmts body=>decide (fd.globals=mainGlobals)&&(fd.closure.isEmpty&&(decide (fd.builtins=builtinsNs)&&(codeIn K fd.code fd.qualname&&(Jl d.N d.ps fd.scope&&(mB ⟨T,fd.scope,d.N⟩ d.body body&&
   (fd.params.posonlyargs.isEmpty&&(fd.params.args.map (·.arg) ==d.ps&&(fd.params.kwonlyargs.isEmpty&&(fd.params.vararg.isNone&&(fd.params.kwarg.isNone&&JD K fd d))))))))))
  |_=>false)
 |_=>false
variable {d:au}
def FK {f:Addr}(h:C7 K T f d=true):vE K T f d:=by
 unfold C7 at h
 split at h
 .rename_i oc od fd sl e;obtain⟨name,qual,params,body,scope,glo,bX,dV,kV,doc,pm,an,cdv,ct,bu⟩:=fd;dsimp only at h
  split at h
  .rename_i body;simp only[nb,decide_eq_true_eq,isEmpty_iff,Option.isNone_iff_eq_none]at h;obtain⟨h1,h2,h3,h4,h5,h6,h7,h8,h9,h10,h11,h12⟩:=h;subst h1 h2 h3;have S:=qS h5;have nd:d.ps.Nodup:=by
    rw[<-S.pre];exact S.nd.sublist (take_sublist _ _)
   refine⟨⟨name,qual,params,body,scope,dV,kV,doc,pm,cdv,ct,oc,od,an,sl,e,h4,S,h6,?_⟩⟩;unfold JD at h12;dsimp only at h12
   split at h12
   .rw[isEmpty_iff.mp h12];exact DN (.all λus hl=>pX nd h7 (beq_iff_eq.mp h8) h9 h10 h11 rfl us hl)
   .rename_i T0;rw[nb]at h12;have h12:=h12.2
    split at h12
    .rename_i o ho
     split at h12
     .rename_i items c hs;rw[nb,decide_eq_true_eq]at h12;intro j;refine⟨items.toList.drop j,?_,lP j (nB h12.1)⟩;refine AZ (n:=d.ps.length-(items.toList.drop j).length) rfl ho hs (by rw[io];omega) λus hl=>?_
      rw[io]at hl;obtain⟨k,k1,k2⟩:=zL (fd:=fnOf name qual params body scope (.ref T0) kV doc pm an cdv ct) (items:=items) nd h7 (beq_iff_eq.mp h8) h9 h10 h11 rfl us nofun h12.2 nofun;refine⟨k,k1,?_⟩;rw[k2]
      by_cases e:j<=items.toList.length
      .rw[show us.length+items.toList.length-d.ps.length=j by omega]
      .rw[show us.length+items.toList.length-d.ps.length=items.toList.length by omega,List.drop_length,List.drop_eq_nil_of_le (by omega:items.toList.length<=j)]
     .cases h12
    .cases h12
   .cases h12
  .cases h
 .cases h
abbrev lx (K:Frag)(T:Tab)(fs:List Addr):Nat->List au->Bool
 |_,[]=>true
 |n,d::r=>C7 K T (fs.getD n 0) d&&lx K T fs (n+1) r
def tw {K:Frag}{T:Tab}{fs:List Addr}:∀ {l:List au}{n:Nat},lx K T fs n l=true->tm (λf d=>vE K T (fs.getD f 0) d) n l
 | [],_,_=>True.intro
 |d::r,n,h=>by
  unfold lx at h;rw[nb]at h;exact⟨FK h.1,tw h.2⟩
def Ag (h:lx K T fs 0 T.fns=true):∀ f d,T.fns[f]? =some d->vE K T (fs.getD f 0) d:=sJ (P:=λf d=>vE K T (fs.getD f 0) d) (tw h)
def ur {K:Frag}{T:Tab}{fs:List Addr}:∀ {l:List au}{n f:Nat}{d:au},lx K T fs n l=true->l[f]? =some d->C7 K T (fs.getD (n+f) 0) d=true
 | [],_,_,_,_,e=>by simp at e
 |a::r,n,0,d,h,e=>by
  unfold lx at h;rw[nb]at h;have:a=d:=by simpa using e
  subst this;exact h.1
 |a::r,n,f+1,d,h,e=>by
  unfold lx at h;rw[nb]at h;have:=ur h.2 (f:=f) (d:=d) (by simpa using e)
  rwa [Nat.add_assoc,Nat.add_comm 1 f]at this
def BX {fl:Nat}(z:lx K T fs 0 T.fns=true)(hd:T.fns[fl]? =some d)(hp:d.ps=[("_law_script":Str)]) (hf:d.dfl=[]):
  ∃ oc od fd sl,K.lookup (fs.getD fl 0)=some ⟨oc,od,.func fd,sl⟩/\∀ (s:Shared) (v:Value),BindsTo s fd ⟨[v],[]⟩ [("_law_script",v)]:=by
 have h:=ur z hd;rw[Nat.zero_add]at h;unfold C7 at h
 split at h
 .rename_i oc od fd sl e;refine⟨oc,od,fd,sl,e,λs v=>?_⟩
  split at h
  .rename_i body hb;simp only[nb,decide_eq_true_eq,isEmpty_iff,Option.isNone_iff_eq_none]at h;obtain⟨h1,h2,h3,h4,h5,h6,h7,h8,h9,h10,h11,h12⟩:=h;have nd:d.ps.Nodup:=by
    rw[<-(qS h5).pre];exact(qS h5).nd.sublist (take_sublist _ _)
   unfold JD at h12;rw[hf]at h12;have e6:fd.defaults=.none:=by
    split at h12
    .rename_i e;exact e
    .rw[nb]at h12;cases h12.1
    .cases h12
   have:=pX nd h7 (beq_iff_eq.mp h8) h9 h10 h11 e6 [v] (by rw[hp];rfl);rw[hp]at this;exact .of_eq this
  .cases h
 .cases h
def A2 {P:Program}{w:World}{h:Heap}{fa:Addr}{cs:List Addr}{fl k:Nat}(X:K.In h)(G:h.Ns mainGlobals mg)(hfa:mg "law"=some (.ref fa))
  (z1:AR K T fs cs gs=true) (z2:lx K T fs 0 T.fns=true) (z3:CK (nsIn K mainGlobals "law") (fs.getD fl 0)=true) (hd:T.fns[fl]? =some d) (hp:d.ps=[("_law_script":Str)]) (hf:d.dfl=[])
  (ht:∀ vs H Q E,jk K 63 vs H Q E->aa T (DT K fs cs gs) k fl vs H Q E):
  ∃ fd:FuncData,(∀ (s:Shared) (v:Value),BindsTo s fd ⟨[v],[]⟩ [("_law_script",v)])/\∀ base:Heap,K.In base->base.Ns mainGlobals mg->cN P w K mg base (zx P w) (2*k) fa fd ["_law_script"] (jk K 63):=by
 have e0:fs.getD fl 0=fa:=by
  have e:=hfa.symm.trans (mg_of X G (f7 z3))
  injection e with e
  injection e with e
  exact e.symm
 have fn:=Ag z2;have tk:=Ck X G z1;have N:=fn fl d hd;have hN:=BX z2 hd;obtain⟨oc,od,fd,sl,e,hb⟩:=hN hp hf;refine⟨fd,hb,λbase hb hg=>?_⟩;have F:=FF (P:=P) (w:=w) (base:=base) (R:=DT K fs cs gs) tk rfl fn k fl d hd (fd:=fd) (lk:=e) (pA▸ht);rw[hp]at F;rw[<-e0];exact F
abbrev KG (K:Frag)(a:Addr)(vs:List V):Bool:=match K.lookup a with
 |some ⟨.type t,_,.seq items _,_⟩=>t =="tuple"&&(decide (items.size<=1000)&&zf vs items.toList)
 |_=>false
def Fy {a:Addr}{vs:List V}(h:KG K a vs=true)(H:Hp):bg K H a vs:=by
 unfold KG at h
 split at h
 .rename_i t od items n sl e;simp only[nb,decide_eq_true_eq]at h;refine .inr ⟨_,items,n,e,?_,rfl,?_,nB h.2.2⟩
  .show Value.type t=_;rw[beq_iff_eq.mp h.1]
  .exact Nat.le_of_lt (cR h.2.1)
 .cases h
end L3
namespace L3
open PySem L2
noncomputable abbrev fU.c (e:Ex)(r:fU):fU:=.cons e r
noncomputable abbrev fU.n:fU:=.nil
noncomputable abbrev lK.c (e:Sx)(r:lK):lK:=.cons e r
noncomputable abbrev lK.n:lK:=.nil
noncomputable abbrev zV.c (a b:Nat)(e:lK)(r:zV):zV:=.cons a b e r
noncomputable abbrev zV.n:zV:=.nil
noncomputable abbrev Ex.i (x:Int):Ex:=.int x
noncomputable abbrev Ex.s (x:Str):Ex:=.str x
noncomputable abbrev Ex.k (x:Nat)(e:fU):Ex:=.call x e
noncomputable abbrev Ex.m (a:Ex)(x:Str)(e:fU):Ex:=.meth a x e
noncomputable abbrev Ex.f (c:Tx)(a b:Ex):Ex:=.ife c a b
noncomputable abbrev Ex.q (o:CmpOp)(a b:Ex):Ex:=.cmp o a b
noncomputable abbrev Tx.q (o:CmpOp)(a b:Ex):Tx:=.cmp o a b
noncomputable abbrev Sx.a (x:Nat)(e:Ex):Sx:=.asg x e
noncomputable abbrev Sx.r (e:Ex):Sx:=.ret e
noncomputable abbrev Sx.f (c:Tx)(a b:lK):Sx:=.ife c a b
noncomputable abbrev Sx.e (e:Ex):Sx:=.expr e
end L3
set_option Elab.async false
set_option maxHeartbeats 8000000
open PySem PySem.Spec L2 L3
namespace My
open PySem L2 L3
set_option hygiene false
local macro_rules|`(#[])=>`(.n)|`(#[$x:term])=>`(.c $x .n)|`(#[$x:term,$xs:term,*])=>`(.c $x #[$xs,*])
set_option hygiene true
abbrev cD:au:=⟨["self","at"],["self","at"],[],#[.e (.bini #[.v 0,.s "no list of 1 to 60 contents"]),.fld (.v 0) "at" (.v 1)]⟩
abbrev dG:au:=⟨["self","deed","cell"],["self","deed","cell"],[],#[.e (.bini #[.v 0,.s "a cell that is not there, or may not be looked at or put"]),.fld (.v 0) "deed" (.v 1),.fld (.v 0) "cell" (.v 2)]⟩
abbrev cX:au:=⟨["self","box","number"],["self","box","number"],[],#[.e (.bini #[.v 0,.s "a box can't hold this"]),.fld (.v 0) "box" (.v 1),.fld (.v 0) "number" (.v 2)]⟩
abbrev ij:au:=⟨["self","box"],["self","box"],[],#[.e (.bini #[.v 0,.s "no box of that name"]),.fld (.v 0) "box" (.v 1)]⟩
abbrev gE:au:=⟨["self","word"],["self","word"],[],#[.e (.bini #[.v 0,.s "a deed can't be made of this"]),.fld (.v 0) "word" (.v 1)]⟩
abbrev g5:au:=⟨["self","at"],["self","at"],[],#[.e (.bini #[.v 0,.s "no list of 1 to 24 deeds"]),.fld (.v 0) "at" (.v 1)]⟩
abbrev fP:au:=⟨["self","at"],["self","at"],[],#[.e (.bini #[.v 0,.s "no place to stand at"]),.fld (.v 0) "at" (.v 1)]⟩
abbrev k8:au:=⟨["thing"],["thing"],[],#[.r (.and (.isi (.v 0) (.ty "int")) (.not (.isi (.v 0) (.ty "bool"))))]⟩
abbrev gz:au:=⟨["thing"],["thing"],[],#[.r (.and (.k 7 #[.v 0]) (.cmp2 .LtE .LtE (.i 0) (.v 0) (.gl "BOUND")))]⟩
abbrev k7:au:=⟨["thing"],["thing"],[],#[.r (.and (.isi (.v 0) (.ty "str")) (.q .In (.v 0) (.gl "NAMES")))]⟩
abbrev iS:au:=⟨["thing"],["thing"],[],#[.r (.and (.k 7 #[.v 0]) (.cmp2 .LtE .LtE (.neg (.gl "BOUND")) (.v 0) (.gl "BOUND")))]⟩
abbrev zu:au:=⟨["box","thing"],["box","thing"],[],#[.f (.or (.q .Eq (.v 0) (.s "here")) (.q .Eq (.v 0) (.s "there"))) #[.r (.k 10 #[.v 1])] .n,.f (.q .Eq (.v 0) (.s "way")) #[.r (.and (.k 7 #[.v 1]) (.or (.q .Eq (.v 1) (.i 1)) (.q .Eq (.v 1) (.neg (.i 1)))))] .n,.f (.q .Eq (.v 0) (.s "met")) #[.r (.and (.k 7 #[.v 1]) (.or (.q .Eq (.v 1) (.i 0)) (.q .Eq (.v 1) (.i 1))))] .n,.r (.k 8 #[.v 1])]⟩
abbrev cV:au:=⟨["self","here","there","left","way","sign","met"],["self","here","there","left","way","sign","met","handed","box","number"],[.int 0,.int 0,.int 0,.int 1,.int 0,.int 0],#[.a 7 (.tup #[.v 1,.v 2,.v 3,.v 4,.v 5,.v 6]),.for (.tp [8,9]) (.zip (.gl "NAMES") (.v 7)) #[.f (.not (.val (.k 11 #[.v 8,.v 9]))) #[.rais (.make 3 #[.v 8,.v 9])] .n],.fld (.v 0) "numbers" (.dzip (.gl "NAMES") (.v 7))]⟩
abbrev fA:au:=⟨["self","box"],["self","box"],[],#[.f (.not (.val (.k 9 #[.v 1]))) #[.rais (.make 4 #[.v 1])] .n,.r (.ix (.fld (.v 0) "numbers") (.v 1))]⟩
abbrev dC:au:=⟨["self","box","number"],["self","box","number"],[],#[.f (.not (.val (.k 9 #[.v 1]))) #[.rais (.make 4 #[.v 1])] .n,.f (.not (.val (.k 11 #[.v 1,.v 2]))) #[.rais (.make 3 #[.v 1,.v 2])] .n,.sub (.fld (.v 0) "numbers") (.v 1) (.v 2)]⟩
abbrev gH:au:=⟨["self"],["self"],[],#[.r (.bf .tuple #[.lc (.ix (.fld (.v 1) "numbers") (.v 0)) [0] (.seq (.gl "NAMES"))])]⟩
abbrev e9:au:=⟨["self"],["self","other"],[],#[.a 1 (.make 8 .n),.fld (.v 1) "numbers" (.bf .dict #[.fld (.v 0) "numbers"]),.r (.v 1)]⟩
abbrev kM:au:=⟨["numbers"],["numbers"],[],#[.r (.make 8 #[.ix (.v 0) (.i 0),.ix (.v 0) (.i 1),.ix (.v 0) (.i 2),.ix (.v 0) (.i 3),.ix (.v 0) (.i 4),.ix (.v 0) (.i 5)])]⟩
abbrev fq:au:=⟨["cells"],["cells","at","thing"],[],#[.f (.or (.not (.val (.isi (.v 0) (.ty "list")))) (.not (.cmp2 .LtE .LtE (.i 1) (.bf .len #[.v 0]) (.gl "MOST_CELLS")))) #[.rais (.make 1 #[.neg (.i 1)])] .n,.for (.tp [1,2]) (.enm (.v 0)) #[.f (.not (.val (.k 8 #[.v 2]))) #[.rais (.make 1 #[.v 1])] .n]]⟩
abbrev cY:au:=⟨["self","cells"],["self","cells"],[],#[.e (.k 18 #[.v 1]),.fld (.v 0) "contents" (.bf .list #[.v 1]),.fld (.v 0) "permits" (.bin .Mult (.lst #[.s "open"]) (.bf .len #[.v 1]))]⟩
abbrev gr:au:=⟨["self"],["self"],[],#[.r (.bf .len #[.fld (.v 0) "contents"])]⟩
abbrev gF:au:=⟨["self"],["self"],[],#[.r (.bf .list #[.fld (.v 0) "contents"])]⟩
abbrev jj:au:=⟨["self","deed","cell"],["self","deed","cell"],[],#[.f (.not (.cmp2 .LtE .Lt (.i 0) (.v 2) (.m (.v 0) "size" .n))) #[.r (.bl false)] .n,.f (.q .Eq (.ix (.fld (.v 0) "permits") (.v 2)) (.s "look")) #[.r (.q .Eq (.v 1) (.s "look"))] .n,.r (.q .Eq (.ix (.fld (.v 0) "permits") (.v 2)) (.s "open"))]⟩
abbrev gX:au:=⟨["self","cell"],["self","cell"],[],#[.f (.not (.val (.m (.v 0) "may" #[.s "look",.v 1]))) #[.rais (.make 2 #[.s "look",.v 1])] .n,.r (.ix (.fld (.v 0) "contents") (.v 1))]⟩
abbrev jg:au:=⟨["self","cell","content"],["self","cell","content"],[],#[.f (.not (.val (.m (.v 0) "may" #[.s "put",.v 1]))) #[.rais (.make 2 #[.s "put",.v 1])] .n,.sub (.fld (.v 0) "contents") (.v 1) (.v 2)]⟩
abbrev fe:au:=⟨["self"],["self","other"],[],#[.a 1 (.make 9 #[.lst #[.i 0]]),.fld (.v 1) "contents" (.bf .list #[.fld (.v 0) "contents"]),.fld (.v 1) "permits" (.bf .list #[.fld (.v 0) "permits"]),.r (.v 1)]⟩
abbrev iW:au:=⟨["word","box"],["word","box"],[],#[.f (.not (.val (.k 9 #[.v 1]))) #[.rais (.make 5 #[.v 0])] .n]⟩
abbrev eC:au:=⟨["word","number"],["word","number"],[],#[.f (.not (.val (.k 10 #[.v 1]))) #[.rais (.make 5 #[.v 0])] .n]⟩
abbrev dZ:au:=⟨["self","box","number"],["self","box","number"],[],#[.e (.k 26 #[.s "set",.v 1]),.e (.k 27 #[.s "set",.v 2]),.fld (.v 0) "box" (.v 1),.fld (.v 0) "number" (.v 2)]⟩
abbrev kL:au:=⟨["self","boxes","store"],["self","boxes","store"],[],#[.e (.m (.v 1) "give" #[.fld (.v 0) "box",.fld (.v 0) "number"]),.r (.i 1)]⟩
abbrev pL:au:=⟨["self"],["self"],[],#[.r (.lst #[.s "set",.fld (.v 0) "box",.bf .str #[.fld (.v 0) "number"]])]⟩
abbrev eX:au:=⟨["self","box","number"],["self","box","number"],[],#[.e (.k 26 #[.s "add",.v 1]),.e (.k 27 #[.s "add",.v 2]),.fld (.v 0) "box" (.v 1),.fld (.v 0) "number" (.v 2)]⟩
abbrev kG:au:=⟨["self","boxes","store"],["self","boxes","store"],[],#[.e (.m (.v 1) "give" #[.fld (.v 0) "box",.bin .Add (.m (.v 1) "holds" #[.fld (.v 0) "box"]) (.fld (.v 0) "number")]),.r (.i 1)]⟩
abbrev pU:au:=⟨["self"],["self"],[],#[.r (.lst #[.s "add",.fld (.v 0) "box",.bf .str #[.fld (.v 0) "number"]])]⟩
abbrev dJ:au:=⟨["self","box","other"],["self","box","other"],[],#[.e (.k 26 #[.s "take",.v 1]),.e (.k 26 #[.s "take",.v 2]),.fld (.v 0) "box" (.v 1),.fld (.v 0) "other" (.v 2)]⟩
abbrev iK:au:=⟨["self","boxes","store"],["self","boxes","store"],[],#[.e (.m (.v 1) "give" #[.fld (.v 0) "box",.m (.v 1) "holds" #[.fld (.v 0) "other"]]),.r (.i 1)]⟩
abbrev nW:au:=⟨["self"],["self"],[],#[.r (.lst #[.s "take",.fld (.v 0) "box",.fld (.v 0) "other"])]⟩
abbrev dH:au:=⟨["self","box"],["self","box"],[],#[.e (.k 26 #[.s "read",.v 1]),.fld (.v 0) "box" (.v 1)]⟩
abbrev i7:au:=⟨["self","boxes","store"],["self","boxes","store"],[],#[.e (.m (.v 1) "give" #[.fld (.v 0) "box",.m (.v 2) "look" #[.m (.v 1) "holds" #[.s "here"]]]),.r (.i 1)]⟩
abbrev oa:au:=⟨["self"],["self"],[],#[.r (.lst #[.s "read",.fld (.v 0) "box"])]⟩
abbrev cW:au:=⟨["self","box"],["self","box"],[],#[.e (.k 26 #[.s "write",.v 1]),.fld (.v 0) "box" (.v 1)]⟩
abbrev gN:au:=⟨["self","boxes","store"],["self","boxes","store","number"],[],#[.a 3 (.m (.v 1) "holds" #[.fld (.v 0) "box"]),.f (.not (.val (.k 8 #[.v 3]))) #[.rais (.make 3 #[.fld (.v 0) "box",.v 3])] .n,.e (.m (.v 2) "put" #[.m (.v 1) "holds" #[.s "there"],.v 3]),.r (.i 1)]⟩
abbrev lL:au:=⟨["self"],["self"],[],#[.r (.lst #[.s "write",.fld (.v 0) "box"])]⟩
abbrev gp:au:=⟨["rows"],["rows","at","thing"],[],#[.f (.or (.not (.val (.isi (.v 0) (.ty "list")))) (.not (.cmp2 .LtE .LtE (.i 1) (.bf .len #[.v 0]) (.gl "MOST_ROWS")))) #[.rais (.make 6 #[.neg (.i 1)])] .n,.for (.tp [1,2]) (.enm (.v 0)) #[.f (.not (.val (.isi (.v 2) (.own 10)))) #[.rais (.make 6 #[.v 1])] .n]]⟩
abbrev fz:au:=⟨["at","many"],["at","many"],[],#[.f (.or (.not (.val (.k 7 #[.v 0]))) (.not (.cmp2 .LtE .LtE (.i 0) (.v 0) (.v 1)))) #[.rais (.make 7 #[.v 0])] .n]⟩
abbrev uF:au:=⟨["deed","boxes","store"],["deed","boxes","store","stop","refusal"],[],#[.tryx #[.r (.tup #[.m (.v 0) "step" #[.v 1,.v 2],.non])] (.c 2 3 #[.r (.tup #[.non,.tup #[.fld (.v 3) "deed",.fld (.v 3) "cell"]])] (.c 3 4 #[.r (.tup #[.non,.tup #[.s "fit",.fld (.v 4) "box"]])] .n))]⟩
abbrev cy:au:=⟨["self","rows","store","boxes","at"],["self","rows","store","boxes","at"],[.int 0],#[.e (.k 43 #[.v 1]),.e (.k 44 #[.v 4,.bf .len #[.v 1]]),.fld (.v 0) "deeds" (.bf .list #[.v 1]),.fld (.v 0) "store" (.m (.v 2) "copied" .n),.fld (.v 0) "boxes" (.m (.v 3) "copied" .n),.fld (.v 0) "at" (.v 4)]⟩
abbrev dI:au:=⟨["self"],["self"],[],#[.r (.q .Eq (.fld (.v 0) "at") (.bf .len #[.fld (.v 0) "deeds"]))]⟩
abbrev cJ:au:=⟨["self","store"],["self","store","by"],[],#[.f (.val (.m (.v 0) "ended" .n)) #[.r (.s "end")] .n,.a 2 (.ix (.k 45 #[.ix (.fld (.v 0) "deeds") (.fld (.v 0) "at"),.fld (.v 0) "boxes",.v 1]) (.i 0)),.f (.q .Is (.v 2) .non) #[.r (.s "stop")] .n,.fld (.v 0) "at" (.bf .min #[.bin .Add (.fld (.v 0) "at") (.v 2),.bf .len #[.fld (.v 0) "deeds"]]),.r (.s "on")]⟩
abbrev kb:au:=⟨["self"],["self"],[],#[.r (.m (.v 0) "step_on" #[.fld (.v 0) "store"])]⟩
abbrev fJ:au:=⟨["self","most"],["self","most","steps"],[],#[.a 2 (.i 0),.whl (.and (.q .Lt (.v 2) (.v 1)) (.q .Eq (.m (.v 0) "step" .n) (.s "on"))) #[.aug 2 .Add (.i 1)],.f (.val (.m (.v 0) "ended" .n)) #[.r (.tup #[.s "end",.v 2])] .n,.f (.q .GtE (.v 2) (.v 1)) #[.r (.tup #[.s "bell",.v 2])] .n,.r (.tup #[.s "stop",.v 2])]⟩
abbrev dN:au:=⟨["self"],["self"],[],#[.r (.tup #[.fld (.v 0) "at",.m (.fld (.v 0) "boxes") "told" .n,.m (.fld (.v 0) "store") "told" .n])]⟩
abbrev kc:au:=⟨["self"],["self"],[],#[.r (.lc (.m (.v 0) "words" .n) [] (.seq (.fld (.v 0) "deeds")))]⟩
abbrev hV:au:=⟨["self"],["self"],[],#[.r (.make 16 #[.fld (.v 0) "deeds",.fld (.v 0) "store",.fld (.v 0) "boxes",.fld (.v 0) "at"])]⟩
abbrev cQ:au:=⟨["self","store"],["self","store"],[],#[.fld (.v 0) "store" (.v 1),.fld (.v 0) "before" (.m (.v 1) "told" .n),.fld (.v 0) "changes" (.lst .n)]⟩
abbrev i5:au:=⟨["self","deed","cell"],["self","deed","cell"],[],#[.r (.m (.fld (.v 0) "store") "may" #[.v 1,.v 2])]⟩
abbrev gj:au:=⟨["self","cell"],["self","cell"],[],#[.r (.m (.fld (.v 0) "store") "look" #[.v 1])]⟩
abbrev jb:au:=⟨["self","cell","content"],["self","cell","content"],[],#[.e (.m (.fld (.v 0) "store") "put" #[.v 1,.v 2]),.e (.lm .append (.fld (.v 0) "changes") #[.tup #[.v 1,.ix (.fld (.v 0) "before") (.v 1),.v 2]])]⟩
abbrev ck:au:=⟨["self","rows","store","boxes","at"],["self","rows","store","boxes","at"],[.int 0],#[.e (.cini 16 #[.v 0,.v 1,.v 2,.v 3,.v 4]),.fld (.v 0) "entries" (.lst .n)]⟩
abbrev ef:au:=⟨["self"],["self","row","ahead","noted","word"],[],#[.a 1 (.fld (.v 0) "at"),.a 2 (.m (.fld (.v 0) "boxes") "told" .n),.a 3 (.make 17 #[.fld (.v 0) "store"]),.a 4 (.m (.v 0) "step_on" #[.v 3]),.f (.q .Eq (.v 4) (.s "on")) #[.e (.lm .append (.fld (.v 0) "entries") #[.tup #[.v 1,.v 2,.fld (.v 3) "changes"]])] .n,.r (.v 4)]⟩
abbrev fH:au:=⟨["self"],["self"],[],#[.r (.lct (.tup #[.v 0,.v 1,.bf .list #[.v 2]]) 3 [] (.seq (.fld (.v 0) "entries")))]⟩
abbrev ir:au:=⟨["self"],["self","other"],[],#[.a 1 (.make 18 #[.fld (.v 0) "deeds",.fld (.v 0) "store",.fld (.v 0) "boxes",.fld (.v 0) "at"]),.fld (.v 1) "entries" (.m (.v 0) "log" .n),.r (.v 1)]⟩
abbrev i6:au:=⟨["rows","first","entries","last"],["rows","first","entries","last","machine"],[],#[.a 4 (.make 18 #[.v 0,.make 9 #[.ix (.v 1) (.i 2)],.k 17 #[.ix (.v 1) (.i 1)],.ix (.v 1) (.i 0)]),.e (.m (.v 4) "run" #[.bf .len #[.v 2]]),.r (.and (.q .Eq (.m (.v 4) "log" .n) (.v 2)) (.q .Eq (.m (.v 4) "state" .n) (.v 3)))]⟩
abbrev lV:au:=⟨["thing"],["thing"],[],#[.r (.and (.k 7 #[.v 0]) (.cmp2 .LtE .LtE (.i 0) (.v 0) (.gl "MOST_HOPPED")))]⟩
abbrev uo:au:=⟨["thing"],["thing"],[],#[.r (.or (.q .Is (.v 0) .non) (.and (.k 7 #[.v 0]) (.or (.q .Eq (.v 0) (.i 0)) (.q .Eq (.v 0) (.i 1)))))]⟩
abbrev eJ:au:=⟨["self","many","on"],["self","many","on"],[.non],#[.f (.or (.not (.val (.k 63 #[.v 1]))) (.not (.val (.k 64 #[.v 2])))) #[.rais (.make 5 #[.s "hop"])] .n,.fld (.v 0) "many" (.v 1),.fld (.v 0) "on" (.v 2)]⟩
abbrev kU:au:=⟨["self","boxes","store"],["self","boxes","store"],[],#[.f (.or (.q .Is (.fld (.v 0) "on") .non) (.q .Eq (.fld (.v 0) "on") (.m (.v 1) "holds" #[.s "met"]))) #[.r (.bin .Add (.i 1) (.fld (.v 0) "many"))] .n,.r (.i 1)]⟩
abbrev oE:au:=⟨["self"],["self","told"],[],#[.a 1 (.lst #[.s "hop",.bf .str #[.fld (.v 0) "many"]]),.f (.q .IsNot (.fld (.v 0) "on") .non) #[.e (.lm .extend (.v 1) #[.lst #[.s "if",.bf .str #[.fld (.v 0) "on"]]])] .n,.r (.v 1)]⟩
abbrev nH:au:=⟨["boxes","box","by"],["boxes","box","by"],[],#[.e (.m (.v 0) "give" #[.v 1,.bin .Add (.m (.v 0) "holds" #[.v 1]) (.v 2)])]⟩
abbrev eD:au:=⟨["boxes","box"],["boxes","box"],[],#[.e (.k 68 #[.v 0,.v 1,.m (.v 0) "holds" #[.s "way"]])]⟩
abbrev jm:au:=⟨["boxes","by"],["boxes","by"],[],#[.e (.k 68 #[.v 0,.s "left",.neg (.v 1)]),.r (.f (.q .Eq (.m (.v 0) "holds" #[.s "left"]) (.i 0)) (.i 1) (.i 0))]⟩
abbrev mr:au:=⟨["store","cell"],["store","cell"],[],#[.f (.not (.val (.m (.v 0) "may" #[.s "put",.v 1]))) #[.rais (.make 2 #[.s "put",.v 1])] .n]⟩
abbrev yL:au:=⟨["store","source","target"],["store","source","target","content"],[],#[.a 3 (.m (.v 0) "look" #[.v 1]),.e (.m (.v 0) "put" #[.v 2,.v 3])]⟩
abbrev kP:au:=⟨["store","one","other"],["store","one","other","first","second"],[],#[.a 3 (.m (.v 0) "look" #[.v 1]),.a 4 (.m (.v 0) "look" #[.v 2]),.e (.k 71 #[.v 0,.v 1]),.e (.k 71 #[.v 0,.v 2]),.e (.m (.v 0) "put" #[.v 1,.v 4]),.e (.m (.v 0) "put" #[.v 2,.v 3])]⟩
abbrev i4:au:=⟨["self","boxes","store"],["self","boxes","store"],[],#[.f (.q .Eq (.m (.v 1) "holds" #[.s "left"]) (.i 0)) #[.r (.i 1)] .n,.e (.k 72 #[.v 2,.m (.v 1) "holds" #[.s "here"],.m (.v 1) "holds" #[.s "there"]]),.e (.k 69 #[.v 1,.s "here"]),.e (.k 69 #[.v 1,.s "there"]),.r (.k 70 #[.v 1,.i 1])]⟩
abbrev nG:au:=⟨["self"],["self"],[],#[.r (.lst #[.s "copy"])]⟩
abbrev ja:au:=⟨["self","boxes","store"],["self","boxes","store"],[],#[.f (.q .Eq (.m (.v 1) "holds" #[.s "left"]) (.i 0)) #[.r (.i 1)] .n,.e (.m (.v 2) "put" #[.m (.v 1) "holds" #[.s "there"],.m (.v 1) "holds" #[.s "sign"]]),.e (.k 69 #[.v 1,.s "there"]),.r (.k 70 #[.v 1,.i 1])]⟩
abbrev nE:au:=⟨["self"],["self"],[],#[.r (.lst #[.s "fill"])]⟩
abbrev jq:au:=⟨["self","boxes","store"],["self","boxes","store"],[],#[.f (.q .Eq (.m (.v 1) "holds" #[.s "left"]) (.i 0)) #[.e (.m (.v 1) "give" #[.s "met",.i 0]),.r (.i 1)] .n,.f (.q .Eq (.m (.v 2) "look" #[.m (.v 1) "holds" #[.s "here"]]) (.m (.v 1) "holds" #[.s "sign"])) #[.e (.m (.v 1) "give" #[.s "met",.i 1]),.r (.i 1)] .n,.e (.m (.v 1) "give" #[.s "met",.i 0]),.e (.k 69 #[.v 1,.s "here"]),.r (.k 70 #[.v 1,.i 1])]⟩
abbrev n8:au:=⟨["self"],["self"],[],#[.r (.lst #[.s "seek"])]⟩
abbrev gd:au:=⟨["self","boxes","store"],["self","boxes","store","content"],[],#[.f (.q .Eq (.m (.v 1) "holds" #[.s "left"]) (.i 0)) #[.e (.m (.v 1) "give" #[.s "met",.i 1]),.r (.i 1)] .n,.a 3 (.m (.v 2) "look" #[.m (.v 1) "holds" #[.s "here"]]),.f (.q .NotEq (.v 3) (.m (.v 2) "look" #[.m (.v 1) "holds" #[.s "there"]])) #[.e (.m (.v 1) "give" #[.s "met",.i 0]),.r (.i 1)] .n,.e (.m (.v 1) "give" #[.s "met",.i 1]),.e (.k 69 #[.v 1,.s "here"]),.e (.k 69 #[.v 1,.s "there"]),.r (.k 70 #[.v 1,.i 1])]⟩
abbrev lJ:au:=⟨["self"],["self"],[],#[.r (.lst #[.s "match"])]⟩
abbrev gc:au:=⟨["self","boxes","store"],["self","boxes","store","left","here","there"],[],#[.a 3 (.m (.v 1) "holds" #[.s "left"]),.f (.q .Eq (.v 3) (.i 0)) #[.r (.i 1)] .n,.a 4 (.m (.v 1) "holds" #[.s "here"]),.a 5 (.m (.v 1) "holds" #[.s "there"]),.f (.q .LtE (.v 5) (.v 4)) #[.e (.k 72 #[.v 2,.v 4,.v 5]),.e (.k 68 #[.v 1,.s "here",.i 1]),.e (.k 68 #[.v 1,.s "there",.i 1])] #[.e (.k 72 #[.v 2,.bin .Sub (.bin .Add (.v 4) (.v 3)) (.i 1),.bin .Sub (.bin .Add (.v 5) (.v 3)) (.i 1)])],.r (.k 70 #[.v 1,.i 1])]⟩
abbrev lB:au:=⟨["self"],["self"],[],#[.r (.lst #[.s "shift"])]⟩
abbrev iQ:au:=⟨["self","boxes","store"],["self","boxes","store","left","here"],[],#[.a 3 (.m (.v 1) "holds" #[.s "left"]),.f (.q .Eq (.v 3) (.i 0)) #[.r (.i 1)] .n,.f (.q .Eq (.v 3) (.i 1)) #[.r (.k 70 #[.v 1,.i 1])] .n,.a 4 (.m (.v 1) "holds" #[.s "here"]),.e (.k 73 #[.v 2,.v 4,.bin .Sub (.bin .Add (.v 4) (.v 3)) (.i 1)]),.e (.k 68 #[.v 1,.s "here",.i 1]),.r (.k 70 #[.v 1,.i 2])]⟩
abbrev m9:au:=⟨["self"],["self"],[],#[.r (.lst #[.s "turn"])]⟩
abbrev iM:au:=⟨["_law_script"],["_law_script","_law_cells_here","_law_fold","_law_cell"],[],#[.a 1 (.bf .list #[.sl (.v 0) .no (.yes (.i 63))]),.a 2 (.bf .len #[.v 1]),.for (.nm 3) (.seq (.v 1)) #[.a 2 (.bin .Mod (.bin .Add (.bin .Add (.bin .Mult (.v 2) (.i 48271)) (.bin .Mod (.v 3) (.i 2147483647))) (.i 1)) (.i 2147483629))],.r (.lst #[.v 1,.v 2,.i 0,.i 0,.i 0])]⟩
abbrev i8:au:=⟨["_law_hand_here","_law_many"],["_law_hand_here","_law_many","_law_rest","_law_cell","_law_one","_law_two"],[],#[.augS (.v 0) (.i 4) .Add (.i 1),.a 2 (.ix (.v 0) (.i 3)),.a 3 (.ix (.v 0) (.i 1)),.f (.q .Gt (.v 2) (.i 0)) #[.sub (.v 0) (.i 3) (.bin .FloorDiv (.v 2) (.v 1)),.r (.bin .Mod (.v 2) (.v 1))] .n,.f (.q .Lt (.ix (.v 0) (.i 2)) (.bf .len #[.ix (.v 0) (.i 0)])) #[.a 3 (.ix (.ix (.v 0) (.i 0)) (.ix (.v 0) (.i 2))),.augS (.v 0) (.i 2) .Add (.i 1),.f (.q .GtE (.v 3) (.bin .Pow (.i 10) (.i 18))) #[.sub (.v 0) (.i 3) (.bin .FloorDiv (.v 3) (.v 1)),.r (.bin .Mod (.v 3) (.v 1))] .n] .n,.a 4 (.bin .Mod (.bin .Pow (.bin .Add (.bin .Mod (.v 3) (.i 998244353)) (.bin .Mult (.i 7919) (.ix (.v 0) (.i 4)))) (.i 5)) (.i 2147483647)),.a 5 (.bin .Mod (.bin .Pow (.bin .Add (.bin .Add (.v 4) (.bin .Mult (.i 104729) (.ix (.v 0) (.i 4)))) (.ix (.v 0) (.i 1))) (.i 3)) (.i 2147483629)),.r (.bin .Mod (.bin .FloorDiv (.v 5) (.i 7)) (.v 1))]⟩
abbrev dS:au:=⟨["_law_hand_here"],["_law_hand_here","_law_way","_law_few"],[],#[.a 1 (.k 87 #[.v 0,.i 4]),.a 2 (.k 87 #[.v 0,.ix (.lst #[.i 3,.i 2,.i 100,.i 100000]) (.v 1)]),.f (.q .Eq (.v 1) (.i 1)) #[.r (.bin .Sub (.bin .Pow (.i 10) (.i 9)) (.v 2))] .n,.f (.q .Eq (.v 1) (.i 3)) #[.r (.bin .Mod (.bin .Add (.bin .Mult (.v 2) (.i 10001)) (.k 87 #[.v 0,.i 10001])) (.bin .Add (.bin .Pow (.i 10) (.i 9)) (.i 1)))] .n,.r (.v 2)]⟩
abbrev gK:au:=⟨["_law_hand_here","_law_most"],["_law_hand_here","_law_most","_law_way","_law_many"],[],#[.a 2 (.k 87 #[.v 0,.i 3]),.a 3 (.bin .Add (.i 1) (.k 87 #[.v 0,.v 1])),.f (.q .Eq (.v 2) (.i 0)) #[.r (.lc (.k 87 #[.v 1,.i 3]) [0] (.rng1 (.v 3)))] .n,.f (.q .Eq (.v 2) (.i 1)) #[.r (.lc (.bin .Add (.bin .Mult (.i 1000) (.v 0)) (.k 87 #[.v 1,.i 1000])) [0] (.rng1 (.v 3)))] .n,.r (.lc (.k 88 #[.v 1]) [0] (.rng1 (.v 3)))]⟩
abbrev fD:au:=⟨["_law_hand_here","_law_many"],["_law_hand_here","_law_many","_law_leaves_here","_law_k","_law_word","_law_low","_law_cell"],[],#[.a 2 (.bin .Mult (.lst #[.s "open"]) (.v 1)),.for (.nm 3) (.rng1 (.ix (.lst #[.i 0,.i 0,.i 1,.i 2,.i 4]) (.k 87 #[.v 0,.i 5]))) #[.a 4 (.ix (.lst #[.s "look",.s "shut",.s "look",.s "open"]) (.k 87 #[.v 0,.i 4])),.a 5 (.k 87 #[.v 0,.v 1]),.for (.nm 6) (.rng2 (.v 5) (.bin .Add (.v 5) (.k 87 #[.v 0,.bin .Add (.bin .Sub (.v 1) (.v 5)) (.i 1)]))) #[.sub (.v 2) (.v 6) (.v 4)]],.r (.v 2)]⟩
abbrev jf:au:=⟨["_law_hand_here","_law_many"],["_law_hand_here","_law_many","_law_way"],[],#[.a 2 (.k 87 #[.v 0,.i 8]),.f (.q .Lt (.v 2) (.i 4)) #[.r (.k 87 #[.v 0,.v 1])] .n,.f (.q .Lt (.v 2) (.i 6)) #[.r (.ix (.lst #[.i 0,.bin .Sub (.v 1) (.i 1)]) (.bin .Sub (.v 2) (.i 4)))] .n,.f (.q .Eq (.v 2) (.i 6)) #[.r (.ix (.lst #[.bin .Sub (.neg (.i 1)) (.k 87 #[.v 0,.i 3]),.bin .Add (.v 1) (.k 87 #[.v 0,.i 3])]) (.k 87 #[.v 0,.i 2]))] .n,.r (.ix (.lst #[.bin .Sub (.bin .Pow (.i 10) (.i 9)) (.k 87 #[.v 0,.i 2]),.bin .Sub (.k 87 #[.v 0,.i 2]) (.bin .Pow (.i 10) (.i 9)),.k 87 #[.v 0,.v 1]]) (.k 87 #[.v 0,.i 3]))]⟩
abbrev fK:au:=⟨["_law_hand_here","_law_cells_here"],["_law_hand_here","_law_cells_here","_law_many","_law_way","_law_left","_law_sign","_law_here","_law_there"],[],#[.a 2 (.bf .len #[.v 1]),.a 3 (.k 87 #[.v 0,.i 8]),.a 4 (.ix (.lst #[.k 87 #[.v 0,.bin .Add (.v 2) (.i 1)],.k 87 #[.v 0,.i 4],.bin .Add (.v 2) (.k 87 #[.v 0,.i 3])]) (.bin .Mod (.v 3) (.i 3))),.f (.q .Eq (.v 3) (.i 7)) #[.a 4 (.bin .Sub (.bin .Pow (.i 10) (.i 9)) (.k 87 #[.v 0,.i 2]))] .n,.a 5 (.ix (.lst #[.ix (.v 1) (.k 87 #[.v 0,.v 2]),.k 88 #[.v 0]]) (.bin .FloorDiv (.k 87 #[.v 0,.i 4]) (.i 3))),.a 6 (.k 91 #[.v 0,.v 2]),.a 7 (.k 91 #[.v 0,.v 2]),.a 3 (.bin .Sub (.i 1) (.bin .Mult (.i 2) (.k 87 #[.v 0,.i 2]))),.r (.disp ["here","there","left","way","sign","met"] #[.v 6,.v 7,.v 4,.v 3,.v 5,.k 87 #[.v 0,.i 2]])]⟩
abbrev iI:au:=⟨["_law_hand_here","_law_size"],["_law_hand_here","_law_size","_law_way","_law_names","_law_box","_law_pick"],[],#[.a 2 (.k 87 #[.v 0,.i 14]),.a 3 (.lst #[.s "here",.s "there",.s "left",.s "way",.s "sign",.s "met"]),.a 4 (.ix (.v 3) (.k 87 #[.v 0,.i 6])),.f (.q .Lt (.v 2) (.i 6)) #[.r (.tup #[.ix (.lst #[.s "copy",.s "fill",.s "seek",.s "match",.s "shift",.s "turn"]) (.v 2)])] .n,.f (.q .Lt (.v 2) (.i 9)) #[.a 4 (.ix (.lst #[.s "here",.s "there",.s "left",.v 4]) (.k 87 #[.v 0,.i 4])),.a 5 (.bin .FloorDiv (.k 87 #[.v 0,.i 8]) (.i 3)),.r (.tup #[.s "set",.v 4,.ix (.lst #[.k 87 #[.v 0,.bin .Add (.v 1) (.i 1)],.bin .Sub (.k 87 #[.v 0,.i 5]) (.i 2),.bin .Sub (.bin .Pow (.i 10) (.i 9)) (.k 87 #[.v 0,.i 2])]) (.v 5)])] .n,.f (.q .Eq (.v 2) (.i 9)) #[.a 5 (.bin .FloorDiv (.k 87 #[.v 0,.i 7]) (.i 3)),.r (.tup #[.s "add",.v 4,.ix (.lst #[.bin .Sub (.k 87 #[.v 0,.i 7]) (.i 3),.k 87 #[.v 0,.bin .Add (.v 1) (.i 1)],.neg (.bin .Pow (.i 10) (.i 9))]) (.v 5)])] .n,.f (.q .Eq (.v 2) (.i 10)) #[.r (.tup #[.s "take",.v 4,.ix (.v 3) (.k 87 #[.v 0,.i 6])])] .n,.f (.q .Lt (.v 2) (.i 13)) #[.r (.tup #[.ix (.lst #[.s "read",.s "write"]) (.bin .Sub (.v 2) (.i 11)),.v 4])] .n,.r (.tup #[.s "hop",.k 87 #[.v 0,.i 4],.ix (.lst #[.non,.i 0,.i 1]) (.k 87 #[.v 0,.i 3])])]⟩
abbrev iP:au:=⟨["_law_spec_here"],["_law_spec_here","_law_word"],[],#[.a 1 (.ix (.v 0) (.i 0)),.f (.q .Eq (.v 1) (.s "set")) #[.r (.make 11 #[.ix (.v 0) (.i 1),.ix (.v 0) (.i 2)])] .n,.f (.q .Eq (.v 1) (.s "add")) #[.r (.make 12 #[.ix (.v 0) (.i 1),.ix (.v 0) (.i 2)])] .n,.f (.q .Eq (.v 1) (.s "take")) #[.r (.make 13 #[.ix (.v 0) (.i 1),.ix (.v 0) (.i 2)])] .n,.f (.q .Eq (.v 1) (.s "read")) #[.r (.make 14 #[.ix (.v 0) (.i 1)])] .n,.f (.q .Eq (.v 1) (.s "write")) #[.r (.make 15 #[.ix (.v 0) (.i 1)])] .n,.f (.q .Eq (.v 1) (.s "hop")) #[.r (.make 19 #[.ix (.v 0) (.i 1),.ix (.v 0) (.i 2)])] .n,.r (.k 95 #[.v 1])]⟩
abbrev jn:au:=⟨["_law_word"],["_law_word","_law_made"],[],#[.a 1 (.lst #[.mk0 20,.mk0 21,.mk0 22,.mk0 23,.mk0 24,.mk0 25]),.r (.ix (.v 1) (.lix (.lst #[.s "copy",.s "fill",.s "seek",.s "match",.s "shift",.s "turn"]) (.v 0)))]⟩
abbrev kF:au:=⟨["_law_leaves_here","_law_deed_here","_law_cell"],["_law_leaves_here","_law_deed_here","_law_cell"],[],#[.f (.or (.q .Lt (.v 2) (.i 0)) (.q .GtE (.v 2) (.bf .len #[.v 0]))) #[.r (.bl false)] .n,.r (.or (.q .Eq (.ix (.v 0) (.v 2)) (.s "open")) (.and (.q .Eq (.ix (.v 0) (.v 2)) (.s "look")) (.q .Eq (.v 1) (.s "look"))))]⟩
abbrev dA:au:=⟨["_law_spec_here","_law_boxes"],["_law_spec_here","_law_boxes","_law_here","_law_there","_law_left","_law_word","_law_far","_law_found"],[],#[.par [2,3,4] #[.ix (.v 1) (.s "here"),.ix (.v 1) (.s "there"),.ix (.v 1) (.s "left")],.a 5 (.ix (.v 0) (.i 0)),.f (.q .Eq (.v 5) (.s "write")) #[.r (.tup #[.lst .n,.lst #[.v 3]])] .n,.f (.q .Eq (.v 5) (.s "read")) #[.r (.tup #[.lst #[.v 2],.lst .n])] .n,.f (.or (.q .Eq (.v 4) (.i 0)) (.and (.q .Eq (.v 5) (.s "turn")) (.q .Eq (.v 4) (.i 1)))) #[.r (.tup #[.lst .n,.lst .n])] .n,.a 6 (.bin .Mult (.bin .Sub (.v 4) (.i 1)) (.bf .int #[.q .Gt (.v 3) (.v 2)])),.a 7 (.disp ["copy","fill","seek","match"] #[.tup #[.lst #[.v 2],.lst #[.v 3]],.tup #[.lst .n,.lst #[.v 3]],.tup #[.lst #[.v 2],.lst .n],.tup #[.lst #[.v 2,.v 3],.lst .n]]),.sub (.v 7) (.s "shift") (.tup #[.lst #[.bin .Add (.v 2) (.v 6)],.lst #[.bin .Add (.v 3) (.v 6)]]),.sub (.v 7) (.s "turn") (.tup #[.lst #[.v 2,.bin .Sub (.bin .Add (.v 2) (.v 4)) (.i 1)],.lst #[.v 2,.bin .Sub (.bin .Add (.v 2) (.v 4)) (.i 1)]]),.r (.dget (.v 7) (.v 5) (.tup #[.lst .n,.lst .n]))]⟩
abbrev jl:au:=⟨["_law_box","_law_number"],["_law_box","_law_number"],[],#[.f (.or (.q .Eq (.v 0) (.s "here")) (.q .Eq (.v 0) (.s "there"))) #[.r (.cmp2 .LtE .LtE (.neg (.bin .Pow (.i 10) (.i 9))) (.v 1) (.bin .Pow (.i 10) (.i 9)))] .n,.f (.or (.q .Eq (.v 0) (.s "left")) (.q .Eq (.v 0) (.s "sign"))) #[.r (.cmp2 .LtE .LtE (.i 0) (.v 1) (.bin .Pow (.i 10) (.i 9)))] .n,.f (.q .Eq (.v 0) (.s "way")) #[.r (.or (.q .Eq (.v 1) (.i 1)) (.q .Eq (.v 1) (.neg (.i 1))))] .n,.r (.or (.q .Eq (.v 1) (.i 0)) (.q .Eq (.v 1) (.i 1)))]⟩
abbrev bS:au:=⟨["_law_spec_here","_law_boxes","_law_leaves_here"],["_law_spec_here","_law_boxes","_law_leaves_here","_law_looks","_law_puts","_law_cell"],[],#[.f (.and (.q .Eq (.ix (.v 0) (.i 0)) (.s "write")) (.not (.cmp2 .LtE .LtE (.i 0) (.ix (.v 1) (.ix (.v 0) (.i 1))) (.bin .Pow (.i 10) (.i 9))))) #[.r (.tup #[.s "fit",.ix (.v 0) (.i 1),.ix (.v 1) (.ix (.v 0) (.i 1))])] .n,.asgT [3,4] (.k 97 #[.v 0,.v 1]),.for (.nm 5) (.seq (.v 3)) #[.f (.not (.val (.k 96 #[.v 2,.s "look",.v 5]))) #[.r (.tup #[.s "look",.v 5,.i 0])] .n],.for (.nm 5) (.seq (.v 4)) #[.f (.not (.val (.k 96 #[.v 2,.s "put",.v 5]))) #[.r (.tup #[.s "put",.v 5,.i 0])] .n],.r .non]⟩
abbrev iL:au:=⟨["_law_spec_here","_law_boxes","_law_cells_here","_law_leaves_here"],["_law_spec_here","_law_boxes","_law_cells_here","_law_leaves_here","_law_barred_here","_law_word","_law_number"],[],#[.a 4 (.k 99 #[.v 0,.v 1,.v 3]),.f (.q .IsNot (.v 4) .non) #[.r (.v 4)] .n,.a 5 (.ix (.v 0) (.i 0)),.f (.q .In (.v 5) (.tup #[.s "set",.s "add",.s "take",.s "read"])) #[.a 6 (.ix (.v 0) (.neg (.i 1))),.f (.q .Eq (.v 5) (.s "add")) #[.a 6 (.bin .Add (.ix (.v 1) (.ix (.v 0) (.i 1))) (.v 6))] .n,.f (.q .Eq (.v 5) (.s "take")) #[.a 6 (.ix (.v 1) (.ix (.v 0) (.i 2)))] .n,.f (.q .Eq (.v 5) (.s "read")) #[.a 6 (.ix (.v 2) (.ix (.v 1) (.s "here")))] .n,.f (.not (.val (.k 98 #[.ix (.v 0) (.i 1),.v 6]))) #[.r (.tup #[.s "fit",.ix (.v 0) (.i 1),.v 6])] .n,.sub (.v 1) (.ix (.v 0) (.i 1)) (.v 6),.r (.tup #[.s "on",.i 1,.i 0])] .n,.f (.q .Eq (.v 5) (.s "write")) #[.sub (.v 2) (.ix (.v 1) (.s "there")) (.ix (.v 1) (.ix (.v 0) (.i 1))),.r (.tup #[.s "on",.i 1,.i 0])] .n,.f (.q .Eq (.v 5) (.s "hop")) #[.r (.tup #[.s "on",.bin .Add (.i 1) (.bin .Mult (.ix (.v 0) (.i 1)) (.bf .int #[.or (.q .Is (.ix (.v 0) (.i 2)) .non) (.q .Eq (.ix (.v 0) (.i 2)) (.ix (.v 1) (.s "met")))])),.i 0])] .n,.r (.tup #[.s "on",.k 101 #[.v 5,.v 1,.v 2],.i 0])]⟩
abbrev gG:au:=⟨["_law_word","_law_boxes","_law_cells_here"],["_law_word","_law_boxes","_law_cells_here","_law_here","_law_there","_law_left","_law_way","_law_size","_law_content_here"],[],#[.par [3,4,5] #[.ix (.v 1) (.s "here"),.ix (.v 1) (.s "there"),.ix (.v 1) (.s "left")],.a 6 (.ix (.v 1) (.s "way")),.f (.q .In (.v 0) (.tup #[.s "seek",.s "match"])) #[.r (.k 102 #[.v 0,.v 1,.v 2])] .n,.f (.q .Eq (.v 5) (.i 0)) #[.r (.i 1)] .n,.a 7 (.i 1),.f (.q .Eq (.v 0) (.s "copy")) #[.sub (.v 2) (.v 4) (.ix (.v 2) (.v 3)),.sub (.v 1) (.s "here") (.bin .Add (.v 3) (.v 6)),.sub (.v 1) (.s "there") (.bin .Add (.v 4) (.v 6))] .n,.f (.q .Eq (.v 0) (.s "fill")) #[.sub (.v 2) (.v 4) (.ix (.v 1) (.s "sign")),.sub (.v 1) (.s "there") (.bin .Add (.v 4) (.v 6))] .n,.f (.and (.q .Eq (.v 0) (.s "shift")) (.q .LtE (.v 4) (.v 3))) #[.sub (.v 2) (.v 4) (.ix (.v 2) (.v 3)),.sub (.v 1) (.s "here") (.bin .Add (.v 3) (.i 1)),.sub (.v 1) (.s "there") (.bin .Add (.v 4) (.i 1))] #[.f (.q .Eq (.v 0) (.s "shift")) #[.sub (.v 2) (.bin .Sub (.bin .Add (.v 4) (.v 5)) (.i 1)) (.ix (.v 2) (.bin .Sub (.bin .Add (.v 3) (.v 5)) (.i 1)))] .n],.f (.and (.q .Eq (.v 0) (.s "turn")) (.q .Gt (.v 5) (.i 1))) #[.a 7 (.i 2),.a 8 (.ix (.v 2) (.v 3)),.sub (.v 2) (.v 3) (.ix (.v 2) (.bin .Sub (.bin .Add (.v 3) (.v 5)) (.i 1))),.sub (.v 2) (.bin .Sub (.bin .Add (.v 3) (.v 5)) (.i 1)) (.v 8),.sub (.v 1) (.s "here") (.bin .Add (.v 3) (.i 1))] .n,.sub (.v 1) (.s "left") (.bin .Sub (.v 5) (.v 7)),.r (.bf .int #[.q .Eq (.ix (.v 1) (.s "left")) (.i 0)])]⟩
abbrev fu:au:=⟨["_law_word","_law_boxes","_law_cells_here"],["_law_word","_law_boxes","_law_cells_here","_law_here","_law_there","_law_left","_law_way","_law_other"],[],#[.par [3,4,5] #[.ix (.v 1) (.s "here"),.ix (.v 1) (.s "there"),.ix (.v 1) (.s "left")],.a 6 (.ix (.v 1) (.s "way")),.f (.q .Eq (.v 5) (.i 0)) #[.sub (.v 1) (.s "met") (.bf .int #[.q .Eq (.v 0) (.s "match")]),.r (.i 1)] .n,.a 7 (.ix (.v 1) (.s "sign")),.f (.q .Eq (.v 0) (.s "match")) #[.a 7 (.ix (.v 2) (.v 4))] .n,.f (.q .Eq (.q .Eq (.ix (.v 2) (.v 3)) (.v 7)) (.q .Eq (.v 0) (.s "seek"))) #[.sub (.v 1) (.s "met") (.bf .int #[.q .Eq (.v 0) (.s "seek")]),.r (.i 1)] .n,.sub (.v 1) (.s "met") (.bf .int #[.q .Eq (.v 0) (.s "match")]),.sub (.v 1) (.s "here") (.bin .Add (.v 3) (.v 6)),.f (.q .Eq (.v 0) (.s "match")) #[.sub (.v 1) (.s "there") (.bin .Add (.v 4) (.v 6))] .n,.sub (.v 1) (.s "left") (.bin .Sub (.v 5) (.i 1)),.r (.bf .int #[.q .Eq (.v 5) (.i 1)])]⟩
abbrev du:au:=⟨["_law_hand_here","_law_most","_law_shut"],["_law_hand_here","_law_most","_law_shut","_law_cells_here","_law_leaves_here","_law_six_here","_law_many","_law_specs"],[],#[.a 3 (.k 89 #[.v 0,.v 1]),.a 4 (.bin .Mult (.lst #[.s "open"]) (.bf .len #[.v 3])),.f (.val (.v 2)) #[.a 4 (.k 90 #[.v 0,.bf .len #[.v 3]])] .n,.a 5 (.k 92 #[.v 0,.v 3]),.a 6 (.ix (.lst #[.i 3,.i 8,.i 24]) (.k 87 #[.v 0,.i 3])),.a 7 (.lc (.k 93 #[.v 1,.bf .len #[.v 2]]) [0,3] (.rng1 (.bin .Add (.i 1) (.k 87 #[.v 0,.v 6])))),.r (.lst #[.v 7,.bin .Mult (.bin .FloorDiv (.k 87 #[.v 0,.i 4]) (.i 3)) (.k 87 #[.v 0,.bin .Add (.bf .len #[.v 7]) (.i 1)]),.v 5,.v 3,.v 4,.lst .n])]⟩
abbrev lX:au:=⟨["_law_own_here"],["_law_own_here","_law_specs","_law_at","_law_six_here","_law_cells_here","_law_leaves_here","_law_log","_law_boxes","_law_puts","_law_old","_law_told_here"],[],#[.asgT [1,2,3,4,5,6] (.v 0),.f (.q .Eq (.v 2) (.bf .len #[.v 1])) #[.r (.s "end")] .n,.a 7 (.vals true (.v 3)),.a 8 (.ix (.k 97 #[.ix (.v 1) (.v 2),.v 3]) (.i 1)),.a 9 (.bf .list #[.v 4]),.a 10 (.k 100 #[.ix (.v 1) (.v 2),.v 3,.v 4,.v 5]),.f (.q .NotEq (.ix (.v 10) (.i 0)) (.s "on")) #[.r (.s "stop")] .n,.e (.lm .append (.v 6) #[.tup #[.v 2,.v 7,.lc (.tup #[.v 0,.ix (.v 1) (.v 0),.ix (.v 2) (.v 0)]) [9,4] (.seq (.v 8))]]),.sub (.v 0) (.i 1) (.bf .min #[.bin .Add (.v 2) (.ix (.v 10) (.i 1)),.bf .len #[.v 1]]),.r (.s "on")]⟩
abbrev gx:au:=⟨["_law_own_here"],["_law_own_here"],[],#[.r (.tup #[.ix (.v 0) (.i 1),.vals true (.ix (.v 0) (.i 2)),.bf .list #[.ix (.v 0) (.i 3)]])]⟩
abbrev ji:au:=⟨["_law_rows","_law_first","_law_entries","_law_last"],["_law_rows","_law_first","_law_entries","_law_last","_law_handed","_law_found"],[],#[.a 4 (.lct (.tup #[.v 0,.v 1,.bf .list #[.v 2]]) 3 [] (.seq (.v 2))),.a 5 (.k 62 #[.v 0,.v 1,.v 4,.v 3]),.f (.or (.not (.val (.isi (.v 5) (.ty "bool")))) (.q .NotEq (.v 4) (.v 2))) #[.r (.s "odd")] .n,.r (.v 5)]⟩
abbrev mF:au:=⟨["_law_script"],["_law_script","_law_hand_here","_law_steps","_law_own_here","_law_rows","_law_states","_law_turn","_law_log","_law_low","_law_behind","_law_other","_law_due"],[],#[.a 1 (.k 86 #[.v 0]),.a 2 (.k 87 #[.v 1,.i 61]),.a 3 (.k 103 #[.v 1,.i 60,.bl false]),.a 4 (.lc (.k 94 #[.v 0]) [] (.seq (.ix (.v 3) (.i 0)))),.a 5 (.lst #[.k 105 #[.v 3]]),.for (.nm 6) (.rng1 (.v 2)) #[.f (.q .Eq (.k 104 #[.v 3]) (.s "on")) #[.e (.lm .append (.v 5) #[.k 105 #[.v 3]])] .n],.a 7 (.ix (.v 3) (.i 5)),.for (.nm 6) (.rng1 (.i 5)) #[.a 8 (.k 87 #[.v 1,.bf .len #[.v 5]]),.a 9 (.bin .Add (.v 8) (.k 87 #[.v 1,.bin .Sub (.bf .len #[.v 5]) (.v 8)])),.a 10 (.k 87 #[.v 1,.bf .len #[.v 5]]),.f (.q .IsNot (.k 106 #[.v 4,.ix (.v 5) (.v 8),.sl (.v 7) (.yes (.v 8)) (.yes (.v 9)),.ix (.v 5) (.v 9)]) (.bl true)) #[.r (.bl false)] .n,.a 11 (.q .Eq (.ix (.v 5) (.v 10)) (.ix (.v 5) (.v 9))),.f (.q .NotEq (.k 106 #[.v 4,.ix (.v 5) (.v 8),.sl (.v 7) (.yes (.v 8)) (.yes (.v 9)),.ix (.v 5) (.v 10)]) (.v 11)) #[.r (.bl false)] .n,.f (.q .Lt (.v 9) (.bf .len #[.v 7])) #[.a 11 (.q .Eq (.ix (.v 5) (.bin .Add (.v 9) (.i 1))) (.ix (.v 5) (.v 9))),.f (.q .NotEq (.k 106 #[.v 4,.ix (.v 5) (.v 8),.sl (.v 7) (.yes (.v 8)) (.yes (.bin .Add (.v 9) (.i 1))),.ix (.v 5) (.v 9)]) (.v 11)) #[.r (.bl false)] .n] .n,.f (.q .Lt (.v 8) (.v 9)) #[.a 11 (.q .Eq (.ix (.v 5) (.bin .Sub (.v 9) (.i 1))) (.ix (.v 5) (.v 9))),.f (.q .NotEq (.k 106 #[.v 4,.ix (.v 5) (.v 8),.sl (.v 7) (.yes (.v 8)) (.yes (.bin .Sub (.v 9) (.i 1))),.ix (.v 5) (.v 9)]) (.v 11)) #[.r (.bl false)] .n] .n],.r (.q .Is (.k 106 #[.v 4,.ix (.v 5) (.i 0),.v 7,.ix (.v 5) (.neg (.i 1))]) (.bl true))]⟩
abbrev tab:Tab where
  fns:=(cD::dG::cX::ij::gE::g5::fP::k8::gz::k7::iS::zu::cV::fA::dC::gH::e9::kM::fq::cY::gr::gF::jj::gX::jg::fe::iW::eC::dZ::kL::pL::eX::kG::pU::dJ::iK::nW::dH::i7::oa::cW::gN::lL::gp::fz::uF::cy::dI::cJ::kb::fJ::dN::kc::hV::cQ::i5::gj::jb::ck::ef::fH::ir::i6::lV::uo::eJ::kU::oE::nH::eD::jm::mr::yL::kP::i4::nG::ja::nE::jq::n8::gd::lJ::gc::lB::iQ::m9::iM::i8::dS::gK::fD::jf::fK::iI::iP::jn::kF::dA::jl::bS::iL::gG::fu::du::lX::gx::ji::mF::[])
  gfn:=(("is_whole",7)::("is_content",8)::("is_box",9)::("is_number",10)::("fits",11)::("boxes_of",17)::("check_cells",18)::("check_box",26)::("check_number",27)::("check_rows",43)::("check_place",44)::("tried",45)::("log_holds",62)::("is_many",63)::("is_on",64)::("more",68)::("go_by_way",69)::("less_left",70)::("ask_put",71)::("haul",72)::("exchange",73)::("_law_hand",86)::("_law_draw",87)::("_law_content",88)::("_law_cells",89)::("_law_leaves",90)::("_law_spot",91)::("_law_six",92)::("_law_spec",93)::("_law_deed",94)::("_law_long",95)::("_law_let",96)::("_law_reach",97)::("_law_fits",98)::("_law_barred",99)::("_law_step",100)::("_law_moved",101)::("_law_looked",102)::("_law_own",103)::("_law_go",104)::("_law_state",105)::("_law_told",106)::("law",107)::[])
  gcl:=[("HaulError",0),("NoStore",1),("Stop",2),("NoFit",3),("NoBox",4),("NoDeed",5),("NoRows",6),("NoPlace",7),("Boxes",8),("Store",9),("Deed",10),("Set",11),("Add",12),("Take",13),("Read",14),("Write",15),("Machine",16),("Noted",17),("Watched",18),("Hop",19),("Copy",20),("Fill",21),("Seek",22),("Match",23),("Shift",24),("Turn",25)]
  gbl:=["bool","dict","enumerate","int","isinstance","len","list","min","range","str","tuple","zip"]
  gbi:=["HaulError"]
  na:=((1,"at")::(2,"cell")::(2,"deed")::(3,"box")::(3,"number")::(4,"box")::(5,"word")::(6,"at")::(7,"at")::(8,"numbers")::(9,"contents")::(9,"permits")::(11,"box")::(11,"number")::(12,"box")::(12,"number")::(13,"box")::(13,"other")::(14,"box")::(15,"box")::(16,"at")::(16,"boxes")::(16,"deeds")::(16,"store")::(17,"before")::(17,"changes")::(17,"store")::(18,"at")::(18,"boxes")::(18,"deeds")::(18,"entries")::(18,"store")::(19,"many")::(19,"on")::[])
  me:=(((8,"copied"),16)::((8,"give"),14)::((8,"holds"),13)::((8,"told"),15)::((9,"copied"),25)::((9,"look"),23)::((9,"may"),22)::((9,"put"),24)::((9,"size"),20)::((9,"told"),21)::((11,"step"),29)::((11,"words"),30)::((12,"step"),32)::((12,"words"),33)::((13,"step"),35)::((13,"words"),36)::((14,"step"),38)::((14,"words"),39)::((15,"step"),41)::((15,"words"),42)::((16,"copied"),53)::((16,"ended"),47)::((16,"rows"),52)::((16,"run"),50)::((16,"state"),51)::((16,"step"),49)::((16,"step_on"),48)::((17,"look"),56)::((17,"may"),55)::((17,"put"),57)::((18,"copied"),61)::((18,"ended"),47)::((18,"log"),60)::((18,"rows"),52)::((18,"run"),50)::((18,"state"),51)::((18,"step"),59)::((18,"step_on"),48)::((19,"step"),66)::((19,"words"),67)::((20,"step"),74)::((20,"words"),75)::((21,"step"),76)::((21,"words"),77)::((22,"step"),78)::((22,"words"),79)::((23,"step"),80)::((23,"words"),81)::((24,"step"),82)::((24,"words"),83)::((25,"step"),84)::((25,"words"),85)::[])
  ini:=[(1,0),(2,1),(3,2),(4,3),(5,4),(6,5),(7,6),(8,12),(9,19),(11,28),(12,31),(13,34),(14,37),(15,40),(16,46),(17,54),(18,58),(19,65)]
  ini0:=[]
  inip:=[20,21,22,23,24,25]
  oc:=[8,9,10,11,12,13,14,15,16,17,18,19,20,21,22,23,24,25]
  xc:=[0,1,2,3,4,5,6,7]
  sub:=(((0,3),false)::((0,2),false)::((1,3),false)::((1,2),false)::((2,3),false)::((2,2),true)::((3,3),true)::((3,2),false)::((4,3),false)::((4,2),false)::((5,3),false)::((5,2),false)::((6,3),false)::((6,2),false)::((7,3),false)::((7,2),false)::((8,10),false)::((9,10),false)::((10,10),true)::((11,10),true)::((12,10),true)::((13,10),true)::((14,10),true)::((15,10),true)::((16,10),false)::((17,10),false)::((18,10),false)::((19,10),true)::((20,10),true)::((21,10),true)::((22,10),true)::((23,10),true)::((24,10),true)::((25,10),true)::[])
  subT:=[]
  subB:=[(("NoneType","bool"),false),(("NoneType","int"),false),(("NoneType","list"),false),(("NoneType","str"),false),(("bool","bool"),true),(("bool","int"),true),(("bool","list"),false),(("bool","str"),false),(("int","bool"),false),(("int","int"),true),(("int","list"),false),(("int","str"),false),(("str","bool"),false),(("str","int"),false),(("str","list"),false),(("str","str"),true),(("list","bool"),false),(("list","int"),false),(("list","list"),true),(("list","str"),false),(("tuple","bool"),false),(("tuple","int"),false),(("tuple","list"),false),(("tuple","str"),false),(("dict","bool"),false),(("dict","int"),false),(("dict","list"),false),(("dict","str"),false)]
  subO:=[]
  cin:=[(16,46)]
/-- what the proofs ask of the addresses -/
structure Ro (K:W.Frag) (R:Rt):Prop where
  hK:R.K=K
  g_BOUND:R.gl "BOUND"=some (.int 1000000000)
  g_MOST_CELLS:R.gl "MOST_CELLS"=some (.int 60)
  g_MOST_ROWS:R.gl "MOST_ROWS"=some (.int 24)
  g_MOST_HOPPED:R.gl "MOST_HOPPED"=some (.int 24)
  g_NAMES:∃ a,R.gl "NAMES"=some (.ref a)/\∀ H,bg K H a [.str "here",.str "there",.str "left",.str "way",.str "sign",.str "met"]
end My
set_option Elab.async false
set_option maxHeartbeats 8000000
namespace My
open PySem L2 L3
open L2.V renaming ref→ut,int→v0,str→v4,non→wf
open L2.HO renaming lst→wl,tup→wn,ins→wp
local macro_rules|`(tactic|delta $x:ident)=>`(tactic|refine wc (d:=$x) nofun rfl rfl ?_)
variable {h a d dx lv:Addr}{m i r c l at_:Int}{ns cs' c0:List Int}{n:Nat}{v:V}{t:String}{xs ds ss:List V}{α:Type}{ws:List Str}{A:aw}{P:V->Prop}{kvs:List (Key×V)}{sp:Sp}{o:Option Int}{ts:List Addr}{rest:St}{D:Ends}
section
variable {K:W.Frag}{R:Rt}{k:Nat}{H:Hp}{Q:VK}{E:XK}{O Γ' Δ:List aw}
local macro_rules| `(tactic|walk_at "w")=>`(tactic|conv=>whnf)
local macro_rules| `(tactic|left)=>`(tactic|walk_at "w")
local macro_rules| `(tactic|symm)=>`(tactic|((with_reducible (repeat(first|exact ah.e|apply ah.t)));done))
local macro_rules| `(tactic|ac_rfl)=>`(tactic|((with_reducible (repeat(first|exact aK.e|apply aK.t)));done))
local macro_rules| `(tactic|ac_nf)=>`(tactic|first|(with_reducible exact Sub.refl)|(refine' Sub.cons ?h ?r;(case h=>symm);(case r=>ac_nf))|(with_reducible exact Sub.nil)|(with_reducible apply Sub.drop;(ac_nf)))
local macro_rules| `(tactic|walk_at "sp")=>`(tactic|(refine Sep.sub ?_ (by with_reducible assumption);(ac_nf)))
local macro_rules| `(tactic|grind)=>`(tactic|first|exact Sep.get (by with_reducible assumption) (by symm)|exact Sep.jG (by with_reducible assumption) (by symm))
local macro_rules| `(tactic|walk_at "ar")=>`(tactic|first|lia|omega|decide|exact ol rfl|(unfold qa;omega)|(unfold BC;omega)|(unfold BC;decide)|(unfold qa;decide)|(simp only[ce,length_set,length_replicate];omega))
local macro_rules| `(tactic|walk_at "ls")=>`(tactic|first|(conv=>lhs;simp only[List.set_cons_succ,List.set_cons_zero,Int.reduceToNat])|rfl)
local macro_rules| `(tactic|walk_at "pf")=>`(tactic|first|(conv=>lhs;simp (decide:=true) only [cF,if_true,if_false])|rfl)
local macro_rules| `(tactic|walk_at "st")=>`(tactic|first
  |(with_reducible refine And.intro rfl ?_)
  |(with_reducible refine aG rfl ?_)
  |(with_reducible refine ar rfl ?_)
  |(with_reducible refine Fc ?_)
  |((with_reducible refine' az ?e ?v ?_);(case e=>grind);(case v=>exact rfl))
  |((with_reducible refine' oM ?e ?v ?_);(case e=>grind);(case v=>exact rfl))
  |((with_reducible refine' G4 ?e ?i ?v ?_);(case e=>grind);(case i=>omega);(case v=>exact rfl))
  |(with_reducible refine Em rfl ?_)
  |(with_reducible refine bf_max rfl ?_)
  |((with_reducible refine' jJ ?e ?_);(case e=>grind))
  |((with_reducible refine' bf_lenT ?e ?_);(case e=>grind))
  |((with_reducible refine' fw ?s ?r ?j ?x (λH hs=>?_));(case s=>with_reducible assumption);(case r=>ac_rfl);(case j=>exact rfl);(case x=>walk_at "ls"))
  |((with_reducible refine' E8 ?s ?l (λp H hs=>?_));(case s=>with_reducible assumption);(case l=>exact ol rfl))
  |((with_reducible refine' zA ?s ?l (λp H hs=>?_));(case s=>with_reducible assumption);(case l=>exact ol rfl))
  |((with_reducible refine' al_dct ?s (λp H hs=>?_));(case s=>with_reducible assumption))
  |((with_reducible refine' Jm ?e ?_);(case e=>grind))
  |((with_reducible refine' HR ?e ?_);(case e=>grind))
  |((with_reducible refine' cat_l ?s ?e ?f ?l (λp H hs=>?_));(case s=>with_reducible assumption);(case e=>grind);(case f=>grind);(case l=>walk_at "ar"))
  |((with_reducible refine' Gn ?s ?e ?f ?g ?l (λp H hs=>?_));(case s=>with_reducible assumption);(case e=>grind);(case f=>walk_at "ar");(case g=>walk_at "ar");(case l=>walk_at "ar"))
  |((with_reducible refine' Jy ?s ?r ?o ?n ?l ?x (λH hs=>?_));(case s=>with_reducible assumption);(case r=>ac_rfl);(case o=>exact rfl);(case n=>exact rfl);(case l=>walk_at "ar");(case x=>walk_at "pf"))
  |((with_reducible refine' bV ?e ?o ?n ?l ?_);(case e=>grind);(case o=>exact rfl);(case n=>exact rfl);(case l=>exact rfl))
  |((with_reducible refine' Hw ?e ?o ?n ?l ?_);(case e=>grind);(case o=>exact rfl);(case n=>exact rfl);(case l=>exact rfl))
  |((with_reducible refine' isi_x ?e ?o ?b ?_);(case e=>grind);(case o=>exact rfl);(case b=>exact rfl))
  |((with_reducible refine' isi_xt ?e ?o ?b ?_);(case e=>grind);(case o=>exact rfl);(case b=>exact rfl))
  |((with_reducible refine' j5 ?t ?b ?_);(case t=>exact rfl);(case b=>exact rfl))
  |((with_reducible refine' tB ?a ?b ?_);(case a=>exact rfl);(case b=>exact rfl))
  |((with_reducible refine' A9 ?a ?b ?_);(case a=>exact rfl);(case b=>exact rfl))
  |((with_reducible refine' tF ?s ?e (λp H hs=>?_));(case s=>with_reducible assumption);(case e=>grind))
  |((with_reducible refine' JC ?s ?e (λp H hs=>?_));(case s=>with_reducible assumption);(case e=>grind))
  |(refine And.intro (by walk_at "ar") ?_))
local macro_rules| `(tactic|walk_at "go")=>`(tactic|(walk_at "w";repeat(walk_at "st";walk_at "w")))
local macro_rules| `(tactic|right)=>`(tactic|walk_at "go")
abbrev hand (h:Addr)(m:Int):aw:=ex λx:Addr×List Int×Int×Int×Int×Int=>oy (pt h (wl [ut x.1,v0 x.2.2.1,v0 x.2.2.2.1,v0 x.2.2.2.2.1,v0 x.2.2.2.2.2])) (oy (pt x.1 (wl (x.2.1.map v0)))
 (pu (x.2.1.length<=63/\0<=x.2.2.1/\x.2.2.1<2147483629/\0<=x.2.2.2.1/\0<=x.2.2.2.2.1/\0<=x.2.2.2.2.2/\x.2.2.2.2.2<=m)))
def xf (s:Sep (hand h m::O) H):∃ (c:Addr) (ns:List Int) (fo i r n:Int),Sep (pt h (wl [ut c,v0 fo,v0 i,v0 r,v0 n])::pt c (wl (ns.map v0))::O) H/\ns.length<=63/\0<=fo/\fo<2147483629/\0<=i/\0<=r/\0<=n/\n<=m:=by
 obtain⟨⟨c,ns,fo,i,r,n⟩,s⟩:=Sep.F0.mp s;have s2:=Sep.star.mp ((Sep.star.mp s).pull .k1);have p:=(s2.pull .k1).pure;exact⟨c,ns,fo,i,r,n,((s2.pull .k1).drop).pull .k1,p⟩
def iA {c:Addr}{fo n:Int}(s:Sep (pt h (wl [ut c,v0 fo,v0 i,v0 r,v0 n])::pt c (wl (ns.map v0))::O) H)(p:ns.length<=63/\0<=fo/\fo<2147483629/\0<=i/\0<=r/\0<=n/\n<=m):Sep (hand h m::O) H:=by
 refine Sep.F0.mpr ⟨⟨c,ns,fo,i,r,n⟩,Sep.star.mpr ?_⟩;exact(Sep.star.mpr (((s.pull .k1).pull .e |> λs=>(Sep.yN p s).pull .k1))).pull .k1
def GK:(10:Int) ^ Int.toNat 18=1000000000000000000:=by decide
def qZ {n:Int}(hk:1<=k)(s:Sep (hand h m::O) H)(hm:m<=1099511627776)(hn0:0<n)(hn1:n<1073741824)
  (q:∀ (r:Int) (H':Hp),0<=r->r<n->Sep (hand h (m+1)::O) H'->Q (v0 r) H'):aa tab R k 87 [ut h,v0 n] H Q E:=by
 obtain⟨c,ns,fo,i,r,j,hs,h63,f0,f1,i0,r0,k0,k1⟩:=xf s;clear s;have nn:n≠0:=by omega
 delta i8;right;refine aD (λhr=>?_) (λhr=>?_)
 .right;rename_i H1 hs1 H2 hs2;exact q _ _ (Int.emod_nonneg _ nn) (Int.emod_lt_of_pos _ hn0) (iA hs2 ⟨h63,f0,f1,i0,Int.ediv_nonneg r0 nofun,by omega,by omega⟩)
 right;refine aD (λhc=>?_) (λhc=>?_)
 .right;obtain⟨z,hz⟩:∃ z,kO (ns.map v0) i=some (v0 z):=zK i0 (by rw[ce]at hc;exact hc);refine az (by grind) hz ?_;right;refine aD (λhz18=>?_) (λhz18=>?_)
  .rw[GK]at hz18;right;rename_i H1 hs1 H2 hs2 H3 hs3;exact q _ _ (Int.emod_nonneg _ nn) (Int.emod_lt_of_pos _ hn0) (iA hs3 ⟨h63,f0,f1,by omega,Int.ediv_nonneg nofun nofun,by omega,by omega⟩)
  .right;rename_i H1 hs1 H2 hs2;exact q _ _ (Int.emod_nonneg _ nn) (Int.emod_lt_of_pos _ hn0) (iA hs2 ⟨h63,f0,f1,by omega,r0,by omega,by omega⟩)
 .right;rename_i H1 hs1;exact q _ _ (Int.emod_nonneg _ nn) (Int.emod_lt_of_pos _ hn0) (iA hs1 ⟨h63,f0,f1,by omega,r0,by omega,by omega⟩)
def FQ (hk:1<=k)(s:Sep O H)(hS:bj R.K H a (ns.map v0))(h63:ns.length<=63)(q:∀ h H',Sep (hand h 0::O) H'->Q (ut h) H'):aa tab R k 86 [ut a] H Q E:=by
 delta iM;right;refine Ji s hS (λp H1 hs1=>?_);rw[Hq ns h63]at hs1;right;rename_i c H2 hs2;refine oh (xs:=ns.map v0) (λj U H=>∃ (fo:Int) (v:Option V),U=[some (ut a),some (ut c),some (v0 fo),v]/\0<=fo/\fo<2147483629/\Sep (pt c (wl (ns.map v0))::pt p (wl (ns.map v0))::O) H) ?_ ?_ ?_ ?_
 .exact⟨_,none,rfl,by rw[ce];omega,by rw[ce];omega,hs2⟩
 .rintro j U H ⟨fo,v,rfl,h0,h2,hs⟩;exact bj.of hs.at
 .rintro j x U H hx ⟨fo,v,rfl,h0,h2,hs⟩;obtain⟨z,rfl⟩:=rh hx;right;exact⟨_,_,rfl,by omega,by omega,hs⟩
 .rintro U H ⟨fo,v,rfl,h0,h2,hs⟩;right;rename_i l H3 hs3;exact q l _ (iA ((hs3.pull .k2).drop) ⟨h63,h0,h2,by omega,by omega,by omega,by omega⟩)
def aq {n:Int}(s:Sep (hand h m::O) H)(e:m<=n):Sep (hand h n::O) H:=by
 obtain⟨c,ns,fo,i,r,j,hs,h63,f0,f1,i0,r0,k0,k1⟩:=xf s;exact iA hs ⟨h63,f0,f1,i0,r0,k0,by omega⟩
inductive Kd (H:Hp):V->String->Prop where
 |non:Kd H wf "NoneType"
 |bl (b:Bool):Kd H (.bl b) "bool"
 |int (i:Int):Kd H (v0 i) "int"
 |str (x:Str):Kd H (v4 x) "str"
 |lst {a:Addr}{xs:List V}(e:H a=some (wl xs)):Kd H (ut a) "list"
 |tup {a:Addr}{xs:List V}(e:H a=some (wn xs)):Kd H (ut a) "tuple"
 |dct {a:Addr}{kvs:List (Key×V)}(e:H a=some (.dK kvs)):Kd H (ut a) "dict"
def iV (h:tyName v H=some t):Kd H v t:=by
 unfold tyName at h
 split at h
 .cases h;exact .non
 .cases h;exact .bl _
 .cases h;exact .int _
 .cases h;exact .str _
 .split at h
  .rename_i e;cases h;exact .lst e
  .rename_i e;cases h;exact .tup e
  .rename_i e;cases h;exact .dct e
  .cases h
 .cases h
abbrev EZ:V->Bool
 | v0 _=>true
 |_=>false
abbrev dP:V->Bool
 | v0 i=>decide (0<=i)&&decide (i<=1000000000)
 |_=>false
def a9 (hk:1<=k)(ht:tyName v H=some t)(q:Q (.bl (EZ v)) H):aa tab R k 7 [v] H Q E:=by
 delta k8;right;cases iV ht
 all_goals
  refine j5 ht rfl ?_;right
  first
   |exact q
   |(refine j5 ht rfl ?_;right;exact q)
def b9 (ro:Ro K R)(hk:2<=k)(ht:tyName v H=some t)(q:Q (.bl (dP v)) H):aa tab R k 8 [v] H Q E:=by
 delta gz;right;refine a9 nofun ht ?_;cases iV ht
 case int i=>
  right;refine aD (λh0=>?_) (λh0=>?_)
  .left;simp only[ro.g_BOUND];right;have e:dP (v0 i)=decide (i<=1000000000):=by simp[dP,h0]
   rw[e]at q;exact q
  .right;have e:dP (v0 i)=false:=by simp[dP,h0]
   rw[e]at q;exact q
 all_goals
  right;exact q
abbrev bad (xs:List V):Option Int:=if xs.length<1\/60<xs.length then some (-1) else(xs.findIdx? λx=>!dP x).map λn=>(n:Int)
def Dm (h:¬ (1<=xs.length/\xs.length<=60)):bad xs=some (-1):=by
 unfold bad;rw[if_pos nofun]
def DV {j:Nat}{x:V}(h:1<=xs.length/\xs.length<=60)(hx:xs[j]? =some x)(hc:dP x=false)(hb:∀ i y,i<j->xs[i]? =some y->dP y=true):bad xs=some j:=by
 unfold bad;rw[if_neg nofun];have:xs.findIdx? (λx=>!dP x)=some j:=by
  rw[List.findIdx?_eq_some_iff_getElem];obtain⟨hj,e⟩:=sw.mp hx;refine⟨hj,by rw[e,hc];rfl,λi hi=>?_⟩;rw[hb i xs[i] hi (li _)]
  decide
 rw[this]
 rfl
def pJ (h:1<=xs.length/\xs.length<=60)(hb:∀ (i:Nat) y,xs[i]? =some y->dP y=true):bad xs=none:=by
 unfold bad;rw[if_neg nofun];have:xs.findIdx? (λx=>!dP x)=none:=by
  rw[List.findIdx?_eq_none_iff];intro x hx;obtain⟨i,hi⟩:=List.mem_iff_getElem?.mp hx;rw[hb i x hi]
  rfl
 rw[this]
 rfl
def AY (h:bad xs=none):1<=xs.length/\xs.length<=60:=by
 unfold bad at h
 split at h
 .cases h
 .omega
def uE {x:V}:(sn (Int.toNat (n:Int)) [x]).flatten=sn n x:=by
 rw[re]
 induction n with
 |zero=>rfl
 |succ n ih=>rw[replicate_succ,flatten_cons,ih];rfl
abbrev jE (C:Addr)(fs:List (Str×V))(x:Addr)(fr:Bool):aw:=ex λd:Addr=>oy (pt x (.exc C (some d) fs fr)) (pt d (.own x))
def jY {C x:Addr}{fs:List (Str×V)}{fr:Bool}(s:Sep (pt x (.exc C (some d) fs fr)::pt d (.own x)::O) H):Sep (jE C fs x fr::O) H:=Sep.F0.mpr ⟨d,Sep.star.mpr s⟩
def Cz {C x:Addr}{fs:List (Str×V)}{fr:Bool}(s:Sep (jE C fs x fr::O) H):∃ d,Sep (pt x (.exc C (some d) fs fr)::pt d (.own x)::O) H:=let⟨d,s⟩:=Sep.F0.mp s;⟨d,Sep.star.mp s⟩
def eK {x:Addr}(hk:1<=k)(s:Sep (pt x (.exc (R.cad 1) none [] true)::O) H)(q:∀ d H',Sep (pt x (.exc (R.cad 1) (some d) [("at",v)] true)::pt d (.own x)::O) H'->Q wf H'):aa tab R k 0 [ut x,v] H Q E:=by
 delta cD;right;refine⟨_,1,_,_,_,_,rfl,by grind,rfl,?_⟩;right;refine xX s rfl rfl (λd H hs=>?_);right;exact q d H hs
def AN (ro:Ro K R)(hk:3<=k)(s:Sep (pt a (wl xs)::tys xs::O) H)(q0:bad xs=none->∀ H',Sep (pt a (wl xs)::tys xs::O) H'->Q wf H')
  (q1:∀ at',bad xs=some at'->∀ x H',Sep (jE (R.cad 1) [("at",v0 at')] x false::pt a (wl xs)::tys xs::O) H'->E x H'):aa tab R k 18 [ut a] H Q E:=by
 delta fq;right;refine j5 (t:="list") (Gg s.at) rfl ?_;right
 by_cases hl:1<=xs.length/\xs.length<=60
 .refine aG (decide_eq_true nofun) ?_;left;simp only[ro.g_MOST_CELLS];right;refine aG (c:=decide ((xs.length:Int)<=60)) (decide_eq_true nofun) ?_;right;refine uG (xs:=xs) (λj U H=>∃ y z,U=[some (ut a),y,z]/\(∀ i w,i<j->xs[i]? =some w->dP w=true)/\Sep (pt a (wl xs)::tys xs::O) H) ?_ ?_ ?_ ?_
  .exact⟨none,none,rfl,λi w h=>absurd h nofun,s⟩
  .rintro j U H ⟨y,z,rfl,_,hs⟩;exact hs.at
  .rintro j x T U H hx ⟨y,z,rfl,hb,hs⟩ hT;have hs1:=hs.mR (xs:=[v0 j,x]) hT;left;refine⟨T,_,rfl,.inl (bg.of hs1.atT),rfl,?_⟩;right;obtain⟨t,ht⟩:=(hs1.pull .k2).G7 x (cr hx);refine b9 ro nofun ht ?_;right;refine cj (λhc=>?_) (λhc=>?_)
   .right;refine⟨_,_,rfl,λi w hi hw=>?_,hs1.drop⟩
    by_cases e:i=j
    .subst e;rw[hx]at hw;cases hw;exact hc
    .exact hb i w nofun hw
   .right;intro p hp;refine eK nofun (hs1.drop.new hp) (λd H hs=>?_);right;refine fS hs (by ac_rfl) rfl (λH hs=>?_);exact q1 _ (DV hl hx hc hb) p H (jY hs)
  .rintro U H ⟨y,z,rfl,hb,hs⟩;right;exact q0 (pJ hl λi w hi=>hb i w (sw.mp hi).1 hi) _ hs
 .have fin:∀ p,H p=none->aa tab R (k-1) 0 [ut p,v0 (-1)] (upd H p (.exc (R.cad 1) none [] true)) (λv H2=>v=wf/\∃ b i dx fs,ut p=ut b/\H2 b=some (.exc (R.cad i) dx fs true)/\tab.xc.contains i=true/\E b (upd H2 b (.exc (R.cad i) dx fs false))) E:=by
   intro p hp;refine eK nofun (s.new hp) (λd H hs=>?_);refine⟨rfl,?_⟩;refine fS (G:=⟨tab,R,aa tab R 0,true⟩) hs (by ac_rfl) rfl (λH hs=>?_);exact q1 _ (Dm hl) p H (jY hs)
  by_cases h1:1<=xs.length
  .refine aG (decide_eq_true nofun) ?_;left;simp only[ro.g_MOST_CELLS];right;refine ar (c:=decide ((xs.length:Int)<=60)) (decide_eq_false nofun) ?_;right;exact fin
  .refine ar (decide_eq_false nofun) ?_;right;exact fin
abbrev ba (C p:Addr)(cs ws:List V):aw:=ex λx:Addr×Addr×Addr=>oy (pt p (wp C x.1 [("contents",ut x.2.1),("permits",ut x.2.2)])) (oy (pt x.1 (.own p)) (oy (pt x.2.1 (wl cs)) (pt x.2.2 (wl ws))))
def bW {C p:Addr}{cs ws:List V}(s:Sep (ba C p cs ws::O) H):∃ dx a b,Sep (pt p (wp C dx [("contents",ut a),("permits",ut b)])::pt dx (.own p)::pt a (wl cs)::pt b (wl ws)::O) H:=by
 obtain⟨⟨dx,a,b⟩,s⟩:=Sep.F0.mp s;refine⟨dx,a,b,?_⟩;have s1:=Sep.star.mp s;have s2:=Sep.star.mp (s1.pull .k1);have s3:=Sep.star.mp (s2.pull .k1);exact((s3.pull .k2).pull .k3)
def eP {C p b:Addr}{cs ws:List V}(s:Sep (pt p (wp C dx [("contents",ut a),("permits",ut b)])::pt dx (.own p)::pt a (wl cs)::pt b (wl ws)::O) H):Sep (ba C p cs ws::O) H:=by
 refine Sep.F0.mpr ⟨(dx,a,b),Sep.star.mpr ?_⟩;have s3:=Sep.star.mpr ((s.pull .k3).pull .k3);have s2:=Sep.star.mpr (s3.pull .k2);exact s2.pull .k1
def nj {p:Addr}(ro:Ro K R)(hk:4<=k)(s:Sep (pt p (wp (R.cad 9) dx [])::pt dx (.own p)::pt a (wl xs)::tys xs::O) H)
  (q0:bad xs=none->∀ H',Sep (ba (R.cad 9) p xs (sn xs.length (v4 "open"))::pt a (wl xs)::tys xs::O) H'->Q wf H')
  (q1:∀ at',bad xs=some at'->∀ x H',Sep (jE (R.cad 1) [("at",v0 at')] x false::pt a (wl xs)::tys xs::O) H'->E x H'):aa tab R k 19 [ut p,ut a] H Q E:=by
 delta cY;right;refine AN (O:=pt p (wp (R.cad 9) dx [])::pt dx (.own p)::O) ro nofun (s.sub (by ac_nf)) (λhb H hs=>?_) (λat' hb x H hs=>?_)
 .have hl:=AY hb;right;rename_i l H1 hs1 H2 hs2 m H3 hs3 w H4 hs4 H5 hs5;rw[uE]at hs5;exact q0 hb _ (eP (hs5.sub (by ac_nf)))
 .exact q1 at' hb x H (hs.sub (by ac_nf))
def ic {C p:Addr}{cs ws:List V}(s:Sep O H)(h:ah (ba C p cs ws) O Δ):∃ dx a b,H p=some (wp C dx [("contents",ut a),("permits",ut b)]):=by
 obtain⟨dx,a,b,hs⟩:=bW (s.pull h);exact⟨dx,a,b,hs.at⟩
def Dy {p:Addr}{cs ws:List V}(hk:1<=k)(s:Sep (ba (R.cad 9) p cs ws::O) H)(q:Q (v0 cs.length) H):aa tab R k 20 [ut p] H Q E:=by
 obtain⟨dx,a,b,hs⟩:=bW s;delta gr;right;exact q
def Du {p:Addr}{cs ws:List V}(hk:1<=k)(s:Sep (ba (R.cad 9) p cs ws::O) H)(q:∀ l H',Sep (pt l (wl cs)::ba (R.cad 9) p cs ws::O) H'->Q (ut l) H'):aa tab R k 21 [ut p] H Q E:=by
 obtain⟨dx,a,b,hs⟩:=bW s;delta gF;right;rename_i l H1 hs1;exact q l H1 ((eP (hs1.sub (by ac_nf))).pull .k1)
def aW {xs:List α}{x:α}(h0:0<=i)(hx:xs[i.toNat]? =some x):kO xs i=some x:=by
 have h:=L2.nK hx
 rwa [Int.toNat_of_nonneg h0]at h
abbrev ai (ws:List Str)(d:Str)(i:Int):Bool:=decide (0<=i)&&(decide (i<ws.length)&&(match ws[i.toNat]? with
 |some w=>if w="look" then d =="look" else w =="open"
 |none=>false))
def ao {d:Str}(h:ai ws d i=true):0<=i/\i<ws.length:=by
 unfold ai at h;rw[nb,nb,decide_eq_true_eq,decide_eq_true_eq]at h;exact⟨h.1,h.2.1⟩
def xk {p:Addr}{cs:List V}{d:Str}(hk:2<=k)(s:Sep (ba (R.cad 9) p cs (ws.map v4)::O) H)(hl:cs.length=ws.length)(q:Q (.bl (ai ws d i)) H):aa tab R k 22 [ut p,v4 d,v0 i] H Q E:=by
 delta jj;right;refine aD (λh0=>?_) (λh0=>?_)
 .obtain⟨dx,a,b,e⟩:=ic s .e;right;refine⟨_,9,_,_,_,rfl,e,rfl,rfl,?_⟩;left;refine Dy nofun s ?_;right;refine aD (λh1=>?_) (λh1=>?_)
  .obtain⟨dx,a,b,hs⟩:=bW s;have h2:i.toNat<ws.length:=by omega
   have e1:ws[i.toNat]? =some ws[i.toNat]:=li h2;generalize ws[i.toNat]=w at e1;have e2:(ws.map v4)[i.toNat]? =some (v4 w):=by rw[im,e1];rfl
   have e3:ai ws d i=(if w="look" then d =="look" else w =="open"):=by
    unfold ai;rw[e1,decide_eq_true h0,decide_eq_true (by omega:i<ws.length)]
    rfl
   rw[e3]at q;right;refine az (by grind) (aW h0 e2) ?_;right;refine cj (λhw=>?_) (λhw=>?_)
   .have hw:w="look":=by simpa[cH] using hw
    rw[if_pos hw]at q;right;exact q
   .have hw:¬ w="look":=by simpa[cH] using hw
    rw[if_neg hw]at q;right;refine az (by grind) (aW h0 e2) ?_;right;exact q
  .have e3:ai ws d i=false:=by
    unfold ai;rw[decide_eq_false (by omega:¬ i<ws.length),Bool.false_and,Bool.and_false]
   rw[e3]at q;right;exact q
 .have e3:ai ws d i=false:=by
   unfold ai;rw[decide_eq_false h0,Bool.false_and]
  rw[e3]at q;right;exact q
def dY {x:Addr}{w:V}(hk:1<=k)(s:Sep (pt x (.exc (R.cad 2) none [] true)::O) H)(q:∀ d H',Sep (pt x (.exc (R.cad 2) (some d) [("deed",v),("cell",w)] true)::pt d (.own x)::O) H'->Q wf H'):aa tab R k 1 [ut x,v,w] H Q E:=by
 delta dG;right;refine⟨_,2,_,_,_,_,rfl,by grind,rfl,?_⟩;right;refine xX s rfl rfl (λd H hs=>?_);right;refine Hs hs (by ac_rfl) rfl rfl (ol rfl) rfl (λH hs=>?_);right;exact q d H hs
def ER {p:Addr}{cs:List V}(hk:3<=k)(s:Sep (ba (R.cad 9) p cs (ws.map v4)::O) H)(hl:cs.length=ws.length)(q0:ai ws "look" i=true->∀ x,cs[i.toNat]? =some x->Q x H)
  (q1:ai ws "look" i=false->∀ x H',Sep (jE (R.cad 2) [("deed",v4 "look"),("cell",v0 i)] x false::ba (R.cad 9) p cs (ws.map v4)::O) H'->E x H'):aa tab R k 23 [ut p,v0 i] H Q E:=by
 delta gX;obtain⟨dx,a,b,e⟩:=ic s .e;right;refine⟨_,9,_,_,_,rfl,e,rfl,rfl,?_⟩;left;refine xk nofun s hl ?_;right;refine cj (λhm=>?_) (λhm=>?_)
 .obtain⟨h0,h1⟩:=ao hm;obtain⟨dx,a,b,hs⟩:=bW s;have h2:i.toNat<cs.length:=by omega
  have e1:cs[i.toNat]? =some cs[i.toNat]:=li h2;right;refine az (by grind) (aW h0 e1) ?_;exact q0 hm _ e1
 .right;intro x hx;refine dY nofun (s.new hx) (λd H hs=>?_);right;refine fS hs (by ac_rfl) rfl (λH hs=>?_);exact q1 hm x H (jY hs)
def HY {p:Addr}{cs:List V}(hk:3<=k)(s:Sep (ba (R.cad 9) p cs (ws.map v4)::O) H)(hl:cs.length=ws.length)(q0:ai ws "put" i=true->∀ H',Sep (ba (R.cad 9) p (cs.set i.toNat v) (ws.map v4)::O) H'->Q wf H')
  (q1:ai ws "put" i=false->∀ x H',Sep (jE (R.cad 2) [("deed",v4 "put"),("cell",v0 i)] x false::ba (R.cad 9) p cs (ws.map v4)::O) H'->E x H'):aa tab R k 24 [ut p,v0 i,v] H Q E:=by
 delta jg;obtain⟨dx,a,b,e⟩:=ic s .e;right;refine⟨_,9,_,_,_,rfl,e,rfl,rfl,?_⟩;left;refine xk nofun s hl ?_;right;refine cj (λhm=>?_) (λhm=>?_)
 .obtain⟨h0,h1⟩:=ao hm;obtain⟨dx,a,b,hs⟩:=bW s;right;refine fw hs (by ac_rfl) (dw h0 nofun) rfl (λH hs=>?_);right;exact q0 hm H (eP hs)
 .right;intro x hx;refine dY nofun (s.new hx) (λd H hs=>?_);right;refine fS hs (by ac_rfl) rfl (λH hs=>?_);exact q1 hm x H (jY hs)
abbrev sR (w:Str):Bool:="open" ==w||("look" ==w||("shut" ==w||false))
def dU:(10:Int) ^ Int.toNat 9=1000000000:=by decide
local macro_rules| `(tactic|walk_at "dr")=>`(tactic|(refine' qZ ?k ?s ?m ?a ?b (λr H hr0 hr1 hs=>?_);(case s=>walk_at "sp");(case k=>exact nofun);(case m=>omega);(case a=>walk_at "ar");(case b=>walk_at "ar")))
local macro_rules| `(tactic|walk_at "gd")=>`(tactic|(walk_at "w";repeat(first|(walk_at "st";walk_at "w")|(walk_at "dr";walk_at "w"))))
def l8 (hk:2<=k)(s:Sep (hand h m::O) H)(hm:m<=1099511000000)(q:∀ i H',0<=i->i<=1000000000->Sep (hand h (m+3)::O) H'->Q (v0 i) H'):aa tab R k 88 [ut h] H Q E:=by
 delta dS;walk_at "gd";rename_i r1 H1 r10 r11 z1 p H2 z2;clear s z1;rcases(by omega:r1=0\/r1=1\/r1=2\/r1=3) with rfl|rfl|rfl|rfl
 .walk_at "gd";rename_i f H3 f0 f1 z3;exact q _ _ f0 nofun (aq (z3.sub (Γ':=hand h (m+1+1)::O) (by ac_nf)) nofun)
 .walk_at "gd";rename_i f H3 f0 f1 z3;exact q _ _ (by rw[dU];omega) (by rw[dU];omega) (aq (z3.sub (Γ':=hand h (m+1+1)::O) (by ac_nf)) nofun)
 .walk_at "gd";rename_i f H3 f0 f1 z3;exact q _ _ f0 nofun (aq (z3.sub (Γ':=hand h (m+1+1)::O) (by ac_nf)) nofun)
 .walk_at "gd";rename_i f H3 f0 f1 z3 r' H5 r0' r1' z5;rw[dU];exact q _ _ nofun nofun (aq (z5.sub (Γ':=hand h (m+1+1+1)::O) (by ac_nf)) nofun)
abbrev aR (ns:List Int):Prop:=∀ i ∈ ns,0<=i/\i<=1000000000
def sv (h:aR ns)(h0:0<=i)(h1:i<=1000000000):aR (ns++[i]):=λj hj=>by
 rcases mem_append.mp hj with hj|hj
 .exact h j hj
 .rw[mem_singleton.mp hj];exact⟨h0,h1⟩
def cT (h:aR ns)(h0:0<=i)(h1:i<=1000000000):aR (ns.set n i):=λj hj=>by
 rcases List.mem_or_eq_of_mem_set hj with hj|rfl
 .exact h j hj
 .exact⟨h0,h1⟩
def Aj {M:Int}(hk:3<=k)(s:Sep (hand h m::O) H)(hm:m<=1099510000000)(hM0:1<=M)(hM1:M<=60)(q:∀ p ns H',1<=ns.length->(ns.length:Int)<=M->aR ns->Sep (pt p (wl (ns.map v0))::hand h (m+300)::O) H'->Q (ut p) H'):aa tab R k 89 [ut h,v0 M] H Q E:=by
 delta gK;walk_at "gd";rename_i wy H1 wy0 wy1 hs1 mn H2 mn0 mn1 hs2;have st:∀ {D:Addr},H2 D=none->(∃ ns,([]:List V)=ns.map v0/\aR ns)/\Sep (pt D (wl [])::hand h (m+2+4*((([]:List V).length:Nat):Int))::O) (upd H2 D (wl [])):=λ{D} hD=>by
  refine⟨⟨[],rfl,λi hi=>absurd hi (by simp)⟩,?_⟩;have s1:=hs2.new (o:=wl []) hD;exact(aq (s1.pull .k1) (by simp;omega)).pull .k1
 have sp:∀ {D:Addr}{ys:List V}{i n:Int}{x:Option V}{rest:St}{H:Hp},((ys.length:Nat):Int)<1+mn->(∃ ns,ys=ns.map v0/\aR ns)->0<=i->i<=1000000000->n<=m+2+4*((ys.length+1:Nat):Int)->Sep (hand h n::pt D (wl ys)::O) H->rm (λD ys H=>(∃ ns,ys=ns.map v0/\aR ns)/\Sep (pt D (wl ys)::hand h (m+2+4*((ys.length:Nat):Int))::O) H) D ys rest x (v0 i) H:=λ{D ys i n x rest H} hl hI h0 h1 hn hs=>by
  obtain⟨ns,e,hc⟩:=hI;refine rm.mk (by grind) nofun ⟨⟨ns++[i],by rw[e];simp,sv hc h0 h1⟩,?_⟩;have hs7:=(hs.pull .k1).set (o':=wl (ys++[v0 i])) rfl;refine(aq (hs7.pull .k1) ?_).pull .k1;rw[ci];exact hn
 have fi:∀ {D:Addr}{ys:List V}{H:Hp},ys.length=(1+mn).toNat->((∃ ns,ys=ns.map v0/\aR ns)/\Sep (pt D (wl ys)::hand h (m+2+4*((ys.length:Nat):Int))::O) H)->Q (ut D) H:=λ{D ys H} hl hI=>by
  obtain⟨⟨ns,rfl,hc⟩,hs⟩:=hI;rw[ce]at hl;refine q D ns H nofun nofun hc ?_;exact(aq (hs.pull .k1) (by rw[ce];omega)).pull .k1
 refine aN (λh0=>?_) (λh0=>?_)
 .walk_at "gd";refine mP (n:=(1+mn).toNat) nofun (λD ys H=>(∃ ns,ys=ns.map v0/\aR ns)/\Sep (pt D (wl ys)::hand h (m+2+4*((ys.length:Nat):Int))::O) H) (λD hD=>st hD) (λD ys H hl hI=>?_) (λD ys H hl hI=>fi hl hI);obtain⟨hI,hs⟩:=hI;walk_at "gd";rename_i r H6 r0 r1 hs6;exact sp nofun hI nofun nofun nofun hs6
 walk_at "gd";refine aN (λh1=>?_) (λh1=>?_)
 .walk_at "gd";refine mP (n:=(1+mn).toNat) nofun (λD ys H=>(∃ ns,ys=ns.map v0/\aR ns)/\Sep (pt D (wl ys)::hand h (m+2+4*((ys.length:Nat):Int))::O) H) (λD hD=>st hD) (λD ys H hl hI=>?_) (λD ys H hl hI=>fi hl hI);obtain⟨hI,hs⟩:=hI;walk_at "gd";rename_i r H6 r0 r1 hs6;exact sp nofun hI nofun nofun nofun hs6
 walk_at "gd";refine mP (n:=(1+mn).toNat) nofun (λD ys H=>(∃ ns,ys=ns.map v0/\aR ns)/\Sep (pt D (wl ys)::hand h (m+2+4*((ys.length:Nat):Int))::O) H) (λD hD=>st hD) (λD ys H hl hI=>?_) (λD ys H hl hI=>fi hl hI);obtain⟨hI,hs⟩:=hI;walk_at "gd";refine l8 nofun (hs.pull .k1) nofun (λi H i0 i1 hs=>?_);exact sp nofun hI i0 i1 nofun hs
abbrev bx (f:α->List aw):aw:=⟨λH D=>∃ x,bz (f x) H D,λH H' D ⟨x,h⟩ k t=>⟨x,bz.st h k t⟩,λH D D' ⟨x,h⟩ k=>⟨x,bz.up h k⟩⟩
def gy:∀ {O Δ:List aw}{D:Addr->Prop},bz (O++Δ) H D ↔ ∃ D1 D2:Addr->Prop,(∀ a,D1 a->D a)/\(∀ a,D2 a->D a)/\(∀ a,D1 a->D2 a->False)/\bz O H D1/\bz Δ H D2
 | [],Δ,D=>⟨λh=>⟨λ_=>False,D,λ_ z=>z.elim,λ_ z=>z,λ_ z _=>z,True.intro,h⟩,λ⟨_,_,_,s2,_,_,h⟩=>bz.up h s2⟩
 |A::O,Δ,D=>by
  constructor
  .rintro⟨E1,E2,s1,s2,dj,hA,h⟩;obtain⟨F1,F2,t1,t2,dk,h1,h2⟩:=gy.mp h;refine⟨λa=>E1 a\/F1 a,F2,λa z=>z.elim (s1 a) λz=>s2 a (t1 a z),λa z=>s2 a (t2 a z),λa z w=>z.elim (λz=>dj a z (t2 a w)) λz=>dk a z w,?_,h2⟩;exact⟨E1,F1,λa z=>.inl z,λa z=>.inr z,λa z w=>dj a z (t1 a w),hA,h1⟩
  .rintro⟨D1,D2,s1,s2,dj,⟨E1,E2,t1,t2,dk,hA,h1⟩,h2⟩;refine⟨E1,λa=>E2 a\/D2 a,λa z=>s1 a (t1 a z),λa z=>z.elim (λz=>s1 a (t2 a z)) (s2 a),λa z w=>w.elim (dk a z) λw=>dj a (t1 a z) w,hA,?_⟩;exact gy.mpr ⟨E2,D2,λa z=>.inl z,λa z=>.inr z,λa z w=>dj a (t2 a z) w,h1,h2⟩
def ki {f:α->List aw}(s:Sep (bx f::O) H):∃ x,Sep (f x++O) H:=by
 obtain⟨D,k,D1,D2,s1,s2,dj,⟨x,h1⟩,h2⟩:=s;exact⟨x,D,k,gy.mpr ⟨D1,D2,s1,s2,dj,h1,h2⟩⟩
def jr {f:α->List aw}(x:α)(s:Sep (f x++O) H):Sep (bx f::O) H:=by
 obtain⟨D,k,h⟩:=s;obtain⟨D1,D2,s1,s2,dj,h1,h2⟩:=gy.mp h;exact⟨D,k,D1,D2,s1,s2,dj,⟨x,h1⟩,h2⟩
abbrev ou:List Str:=["here","there","left","way","sign","met"]
abbrev wg:List Key:=[.inr "here",.inr "there",.inr "left",.inr "way",.inr "sign",.inr "met"]
abbrev eI:V->Bool
 | v0 i=>decide (-1000000000<=i)&&decide (i<=1000000000)
 |_=>false
abbrev lp (a b:Int):V->Bool
 | v0 i=>i ==a||i ==b
 |_=>false
abbrev bw:Nat->V->Bool
 |0,v=>eI v
 |1,v=>eI v
 |3,v=>lp 1 (-1) v
 |5,v=>lp 0 1 v
 |_,v=>dP v
def eG (ro:Ro K R)(hk:2<=k)(ht:tyName v H=some t)(q:Q (.bl (eI v)) H):aa tab R k 10 [v] H Q E:=by
 delta iS;right;refine a9 nofun ht ?_;cases iV ht
 case int i=>
  left;refine aG rfl ?_;left;simp only[ro.g_BOUND];right;refine aD (λh0=>?_) (λh0=>?_)
  .left;simp only[ro.g_BOUND];right;have e:eI (v0 i)=decide (i<=1000000000):=by simp[eI,h0]
   rw[e]at q;exact q
  .right;have e:eI (v0 i)=false:=by simp[eI,h0]
   rw[e]at q;exact q
 all_goals
  right;exact q
def kf {j:Nat}{x:Str}(h:ou[j]? =some x):(j=0/\x="here")\/(j=1/\x="there")\/(j=2/\x="left")\/(j=3/\x="way")\/(j=4/\x="sign")\/(j=5/\x="met"):=by
 rcases j with _|_|_|_|_|_|j
 .cases h;exact .inl ⟨rfl,rfl⟩
 .cases h;exact .inr (.inl ⟨rfl,rfl⟩)
 .cases h;exact .inr (.inr (.inl ⟨rfl,rfl⟩))
 .cases h;exact .inr (.inr (.inr (.inl ⟨rfl,rfl⟩)))
 .cases h;exact .inr (.inr (.inr (.inr (.inl ⟨rfl,rfl⟩))))
 .cases h;exact .inr (.inr (.inr (.inr (.inr ⟨rfl,rfl⟩))))
 .exact absurd h (by simp[ou])
local macro_rules| `(tactic|walk_at "sc")=>`(tactic|first|(refine aG (by decide+kernel) ?_;walk_at "go")|(refine ar (by decide+kernel) ?_;walk_at "go"))
def rG {j:Nat}{x:Str}(ro:Ro K R)(hk:3<=k)(hj:ou[j]? =some x)(ht:tyName v H=some t)(q:Q (.bl (bw j v)) H):aa tab R k 11 [v4 x,v] H Q E:=by
 delta zu;rcases kf hj with⟨rfl,rfl⟩|⟨rfl,rfl⟩|⟨rfl,rfl⟩|⟨rfl,rfl⟩|⟨rfl,rfl⟩|⟨rfl,rfl⟩
 all_goals right
 all_goals repeat walk_at "sc"
 .exact eG ro nofun ht q
 .exact eG ro nofun ht q
 .exact b9 ro nofun ht q
 .refine a9 nofun ht ?_;cases iV ht
  case int i=>
   right;refine aN (λh0=>?_) (λh0=>?_)
   .right;have e:bw 3 (v0 i)=true:=by simp[bw,lp,h0]
    rw[e]at q;exact q
   .right;have e:bw 3 (v0 i)=(i == -1):=by simp[bw,lp,h0]
    rw[e]at q;exact q
  all_goals
   right;exact q
 .exact b9 ro nofun ht q
 .refine a9 nofun ht ?_;cases iV ht
  case int i=>
   right;refine aN (λh0=>?_) (λh0=>?_)
   .right;have e:bw 5 (v0 i)=true:=by simp[bw,lp,h0]
    rw[e]at q;exact q
   .right;have e:bw 5 (v0 i)=(i ==1):=by simp[bw,lp,h0]
    rw[e]at q;exact q
  all_goals
   right;exact q
abbrev boxes (R:Rt)(b:Addr)(ns:List Int):aw:=bx λx:Addr×Addr=>[pt b (wp (R.cad 8) x.1 [("numbers",ut x.2)]),pt x.1 (.own b),pt x.2 (.dK (wg.zip (ns.map v0))),pu (ns.length=6)]
def gA {b:Addr}(s:Sep (boxes R b ns::O) H):∃ dx d,ns.length=6/\Sep (pt b (wp (R.cad 8) dx [("numbers",ut d)])::pt dx (.own b)::pt d (.dK (wg.zip (ns.map v0)))::O) H:=by
 obtain⟨⟨dx,d⟩,s⟩:=ki s;have s:Sep (pt b (wp (R.cad 8) dx [("numbers",ut d)])::pt dx (.own b)::pt d (.dK (wg.zip (ns.map v0)))::pu (ns.length=6)::O) H:=s;have p:=(s.pull .k3).pure;exact⟨dx,d,p,(s.pull .k3).drop⟩
def gW {b:Addr}(hn:ns.length=6)(s:Sep (pt b (wp (R.cad 8) dx [("numbers",ut d)])::pt dx (.own b)::pt d (.dK (wg.zip (ns.map v0)))::O) H):Sep (boxes R b ns::O) H:=
 jr (dx,d) (Sep.push .k3 (Sep.yN hn s))
def six {ns:List α}(h:ns.length=6):∃ a b c d e f,ns=[a,b,c,d,e,f]:=by
 match ns,h with
 | [a,b,c,d,e,f],_=>exact⟨a,b,c,d,e,f,rfl⟩
def t6 {j:Nat}{x:Str}(hn:ns.length=6)(hj:ou[j]? =some x):∃ i,ns[j]? =some i/\fm (wg.zip (ns.map v0)) (.inr x)=some (v0 i):=by
 obtain⟨a,b,c,d,e,f,rfl⟩:=six hn;rcases kf hj with⟨rfl,rfl⟩|⟨rfl,rfl⟩|⟨rfl,rfl⟩|⟨rfl,rfl⟩|⟨rfl,rfl⟩|⟨rfl,rfl⟩<;>exact⟨_,rfl,rfl⟩
def BE {b:Addr}(ro:Ro K R)(hk:1<=k)(s:Sep (boxes R b ns::O) H)(q:∀ t H',Sep (tu t (ns.map v0)::boxes R b ns::O) H'->Q (ut t) H'):aa tab R k 15 [ut b] H Q E:=by
 obtain⟨dx,d,hn,s⟩:=gA s;delta gH;right;obtain⟨a,hg,hS⟩:=ro.g_NAMES;simp only[hg];rw[<-ro.hK]at hS;right;refine Gi (hS H) ?_;refine Dt (xs:=ou.map v4) (ol rfl) (λD ys H=>ys=(ns.map v0).take ys.length/\Sep (pt D (wl ys)::pt b (wp (R.cad 8) dx [("numbers",ut d)])::pt dx (.own b)::pt d (.dK (wg.zip (ns.map v0)))::O) H) ?_ ?_ ?_ ?_
 .intro D ys H _;exact hS H
 .intro D hD;exact⟨rfl,s.new hD⟩
 .rintro D ys x H' hx ⟨e,hs⟩;rw[im]at hx;obtain⟨z,hz,rfl⟩:=nl.mp hx;obtain⟨i,h1,h2⟩:=t6 hn hz;right;refine qC (k:=.inr z) (by grind) h2 ?_;have hlt:=(sw.mp h1).1;refine rm.mk (by grind) nofun ⟨?_,?_⟩
  .have e2:(ns.map v0)[ys.length]? =some (v0 i):=by rw[im,h1];rfl
   rw[ci,f8,take_succ,e2]
   conv=>lhs;rw[e]
   rfl
  .exact hs.set rfl
 .rintro D ys H' hl ⟨e,hs⟩;have e2:ys=ns.map v0:=by
   rw[e,hl];rw[take_of_length_le];simp[ou,hn]
  subst e2;right;refine EA hs (by grind) (λp H hs=>?_);right;refine q p H ?_;refine Sep.pull .k1 (gW (dx:=dx) (d:=d) hn ?_);walk_at "sp"
def ug {x:Addr}(ro:Ro K R)(hk:4<=k)(hn:ns.length=6)(hf:∀ (j:Nat) i,ns[j]? =some i->bw j (v0 i)=true) (s:Sep (pt x (wp (R.cad 8) dx [])::pt dx (.own x)::O) H) (q:∀ H',Sep (boxes R x ns::O) H'->Q wf H'):
  aa tab R k 12 (ut x::ns.map v0) H Q E:=by
 obtain⟨a0,a1,a2,a3,a4,a5,rfl⟩:=six hn;delta cV;right;rename_i p H1 hs1;obtain⟨na,hg,hS⟩:=ro.g_NAMES;simp only[hg];rw[<-ro.hK]at hS;right;refine Js (tp1:=true) (tp2:=true) (xs:=ou.map v4) (ys:=[v0 a0,v0 a1,v0 a2,v0 a3,v0 a4,v0 a5]) (hS _) (bg.of hs1.at) ?_;refine AQ (xs:=ou.map v4) (ys:=[v0 a0,v0 a1,v0 a2,v0 a3,v0 a4,v0 a5]) (λj U H=>∃ v w,U=[some (ut x),some (v0 a0),some (v0 a1),some (v0 a2),some (v0 a3),some (v0 a4),some (v0 a5),some (ut p),v,w]/\Sep (pt p (wn [v0 a0,v0 a1,v0 a2,v0 a3,v0 a4,v0 a5])::pt x (wp (R.cad 8) dx [])::pt dx (.own x)::O) H) rfl ?_ ?_ ?_ ?_
 .exact⟨none,none,rfl,hs1⟩
 .rintro j U H ⟨v,w,rfl,hs⟩;exact⟨hS _,bg.of hs.at⟩
 .rintro j y z T U H hy hz ⟨v,w,rfl,hs⟩ hT;rw[im]at hy;obtain⟨nm,hnm,rfl⟩:=nl.mp hy;obtain⟨i,hi,rfl⟩:∃ i,([a0,a1,a2,a3,a4,a5]:List Int)[j]? =some i/\z=v0 i:=by
   have hz':(([a0,a1,a2,a3,a4,a5]:List Int).map v0)[j]? =some z:=hz;rw[im]at hz';obtain⟨i,h1,h2⟩:=nl.mp hz';exact⟨i,h1,h2.symm⟩
  have hs2:=hs.mR (xs:=[v4 nm,v0 i]) hT;left;refine⟨T,_,rfl,.inl (bg.of hs2.atT),rfl,?_⟩;right;refine rG ro nofun hnm rfl ?_;rw[hf j i hi];right;exact⟨_,_,rfl,hs2.drop⟩
 .rintro U H ⟨v,w,rfl,hs⟩;right;simp only[hg];right;refine GC (tp1:=true) (tp2:=true) (ks:=wg) (ys:=([a0,a1,a2,a3,a4,a5]:List Int).map v0) hs (hS _) (bg.of hs.at) (by decide+kernel) rfl (ol rfl) (λd H2 hs2=>?_);right;rename_i H3 hs3;refine q _ ?_;refine gW (dx:=dx) (d:=d) rfl ?_;walk_at "sp"
def w8 {j:Nat}{x:Str}(ro:Ro K R)(hk:1<=k)(hj:ou[j]? =some x)(q:Q (.bl true) H):aa tab R k 9 [v4 x] H Q E:=by
 delta k7;right;obtain⟨a,hg,hs⟩:=ro.g_NAMES;simp only[hg];have hs':=hs H;rw[<-ro.hK]at hs';right;refine fX hs' rfl rfl ?_;rcases kf hj with⟨rfl,rfl⟩|⟨rfl,rfl⟩|⟨rfl,rfl⟩|⟨rfl,rfl⟩|⟨rfl,rfl⟩|⟨rfl,rfl⟩<;>exact q
def dD {b:Addr}{j:Nat}{x:Str}(ro:Ro K R)(hk:2<=k)(s:Sep (boxes R b ns::O) H)(hj:ou[j]? =some x)(hi:ns[j]? =some i)(q:Q (v0 i) H):aa tab R k 13 [ut b,v4 x] H Q E:=by
 obtain⟨dx,d,hn,s⟩:=gA s;delta fA;right;refine w8 ro nofun hj ?_;right;obtain⟨i',h1,h2⟩:=t6 hn hj;rw[hi]at h1;cases h1;exact qC (k:=.inr x) (by grind) h2 q
def vI {b:Addr}(ro:Ro K R)(hk:5<=k)(s:Sep (boxes R b ns::O) H)(q:∀ c H',Sep (boxes R c ns::boxes R b ns::O) H'->Q (ut c) H'):aa tab R k 16 [ut b] H Q E:=by
 delta e9;right;intro x dx h1 h2 h3;refine ug (ns:=[0,0,0,1,0,0]) ro nofun rfl ?_ (hU s h1 h2 h3) (λH1 hs1=>?_)
 .intro j i hi;rcases j with _|_|_|_|_|_|j<;>first|(cases hi;rfl)|exact absurd hi (by simp)
 refine⟨rfl,?_⟩;obtain⟨dx1,d1,hn1,hs2⟩:=gA hs1;obtain⟨dx2,d2,hn2,hs3⟩:=gA (hs2.pull .k3);right;refine Ar hs3 (by grind) (λd3 H3 hs4=>?_);right;rename_i H4 hs5;refine q _ _ ?_;refine gW (dx:=dx1) (d:=d3) hn2 ?_;refine Sep.push .k3 (gW (dx:=dx2) (d:=d2) hn2 ?_);walk_at "sp"
def gk {x:Addr}{w:V}(hk:1<=k)(s:Sep (pt x (.exc (R.cad 3) none [] true)::O) H)(q:∀ d H',Sep (pt x (.exc (R.cad 3) (some d) [("box",v),("number",w)] true)::pt d (.own x)::O) H'->Q wf H'):aa tab R k 2 [ut x,v,w] H Q E:=by
 delta cX;right;refine⟨_,3,_,_,_,_,rfl,by grind,rfl,?_⟩;right;refine xX s rfl rfl (λd H hs=>?_);right;refine Hs hs (by ac_rfl) rfl rfl (ol rfl) rfl (λH hs=>?_);right;exact q d H hs
abbrev HV:V->Bool
 | v4 x=>F3 (v4 x) (ou.map v4)
 |_=>false
def nM (ro:Ro K R)(hk:1<=k)(ht:tyName v H=some t)(q:Q (.bl (HV v)) H):aa tab R k 9 [v] H Q E:=by
 delta k7;right;obtain⟨a,hg,hs⟩:=ro.g_NAMES;have hs':=hs H;rw[<-ro.hK]at hs';cases iV ht
 case str x=>
  refine j5 ht rfl ?_;left;refine aG rfl ?_;left;simp only[hg];right;exact fX hs' rfl rfl q
 all_goals
  refine j5 ht rfl ?_;right;exact q
def rQ {j:Nat}{x:Str}(hj:ou[j]? =some x):HV (v4 x)=true:=by
 rcases kf hj with⟨rfl,rfl⟩|⟨rfl,rfl⟩|⟨rfl,rfl⟩|⟨rfl,rfl⟩|⟨rfl,rfl⟩|⟨rfl,rfl⟩<;>rfl
def t7 {j:Nat}{x:Str}(hn:ns.length=6)(hj:ou[j]? =some x):putK (wg.zip (ns.map v0)) (.inr x) (v0 i)=wg.zip ((ns.set j i).map v0):=by
 obtain⟨a,b,c,d,e,f,rfl⟩:=six hn;rcases kf hj with⟨rfl,rfl⟩|⟨rfl,rfl⟩|⟨rfl,rfl⟩|⟨rfl,rfl⟩|⟨rfl,rfl⟩|⟨rfl,rfl⟩<;>rfl
def Fo {b:Addr}{j:Nat}{x:Str}(ro:Ro K R)(hk:4<=k)(s:Sep (boxes R b ns::O) H)(hj:ou[j]? =some x)(hf:bw j (v0 i)=true)(q:∀ H',Sep (boxes R b (ns.set j i)::O) H'->Q wf H'):aa tab R k 14 [ut b,v4 x,v0 i] H Q E:=by
 obtain⟨dx,d,hn,s⟩:=gA s;delta dC;right;refine nM (t:="str") ro nofun rfl ?_;rw[rQ hj];right;refine rG ro nofun hj rfl ?_;rw[hf];right;refine t9 (k:=.inr x) (kvs':=wg.zip ((ns.set j i).map v0)) s (by ac_rfl) (by rw[length_zip,ce,hn];decide) (t7 hn hj) (λH1 hs1=>?_);right;exact q H1 (gW (by rw[length_set];exact hn) hs1)
def qX {b:Addr}{j:Nat}{x:Str}(ro:Ro K R)(hk:4<=k)(s:Sep (boxes R b ns::O) H)(hj:ou[j]? =some x)(ht:tyName v H=some t)(hf:bw j v=false)(q:∀ e d H',Sep (pt e (.exc (R.cad 3) (some d) [("box",v4 x),("number",v)] false)::pt d (.own e)::boxes R b ns::O) H'->E e H'):aa tab R k 14 [ut b,v4 x,v] H Q E:=by
 delta dC;right;refine nM (t:="str") ro nofun rfl ?_;rw[rQ hj];right;refine rG ro nofun hj ht ?_;rw[hf];right;intro e he;refine gk nofun (s.new he) (λd H3 hs3=>⟨rfl,?_⟩);exact fS (G:=⟨tab,R,aa tab R (k-1),true⟩) hs3 .e rfl (λH4 hs4=>q e d H4 hs4)
abbrev Ob (R:Rt)(A:aw)(b:Addr)(i:Nat)(fl:List Str):Prop:=∀ H D,A.p H D->∃ dx fs,H b=some (wp (R.cad i) dx fs)/\fs.map (·.1)=fl
def uC {m:Str}:∀ {fs:List (Str×V)},(fs.map (·.1)).all (λx=>!(m ==x))=true->fs.lookup m=none
 | [],_=>rfl
 |(x,v)::fs,h=>by
  simp only[map_cons,all_cons,nb]at h;have h1:(m ==x)=false:=by simpa using h.1
  rw[lookup_cons,h1];exact uC h.2
def ag {G:Gx}{b:Addr}{i f:Nat}{fl:List Str}{m:Str}{X:Nat->Prop}(o:Ob G.R A b i fl)(s:Sep O H)(p:ah A O Δ)(hm:fl.all (λx=>!(m ==x))=true) (hf:G.T.me.lookup (i,m)=some f) (h:X f):
  ∃ p' i' dx fs f',ut b=ut p'/\H p'=some (wp (G.R.cad i') dx fs)/\fs.lookup m=none/\G.T.me.lookup (i',m)=some f'/\X f':=by
 obtain⟨D,k,D1,D2,s1,s2,dj,h1,h2⟩:=s.pull p;obtain⟨dx,fs,e1,e2⟩:=o H D1 h1;exact⟨b,i,dx,fs,f,rfl,e1,uC (e2▸hm),hf,h⟩
structure Bx where
 h:Int
 t:Int
 l:Int
 w:Int
 s:Int
 m:Int
abbrev Bx.ls (x:Bx):List Int:=[x.h,x.t,x.l,x.w,x.s,x.m]
abbrev Bx.ok (x:Bx):Prop:=(-1000000000<=x.h/\x.h<=1000000000)/\(-1000000000<=x.t/\x.t<=1000000000)/\(0<=x.l/\x.l<=1000000000)/\(x.w=1\/x.w= -1)/\(0<=x.s/\x.s<=1000000000)/\(x.m=0\/x.m=1)
abbrev aM (R:Rt)(b:Addr)(x:Bx):aw:=bx λ_:Unit=>[boxes R b x.ls,pu x.ok]
variable {x:Bx}
def dM {b:Addr}(s:Sep (aM R b x::O) H):x.ok/\Sep (boxes R b x.ls::O) H:=by
 obtain⟨_,s⟩:=ki s;have s:Sep (boxes R b x.ls::pu x.ok::O) H:=s;exact⟨(s.pull .k1).pure,(s.pull .k1).drop⟩
def mK {b:Addr}(hx:x.ok)(s:Sep (boxes R b x.ls::O) H):Sep (aM R b x::O) H:=jr () (Sep.push .k1 (Sep.yN hx s))
def lW {b:Addr}(s:Sep O H)(p:ah (aM R b x) O Δ):x.ok:=(dM (s.pull p)).1
def bb {b:Addr}:Ob R (aM R b x) b 8 ["numbers"]:=by
 rintro H D ⟨_,D1,D2,_,_,_,⟨⟨dx,d⟩,E1,E2,_,_,_,⟨_,h⟩,_⟩,_⟩;exact⟨dx,_,h,rfl⟩
def Ec (h:x.ok):∀ (j:Nat) i,x.ls[j]? =some i->bw j (v0 i)=true:=by
 obtain⟨⟨h1,h2⟩,⟨h3,h4⟩,⟨h5,h6⟩,h7,⟨h8,h9⟩,h10⟩:=h;intro j i hi;rcases j with _|_|_|_|_|_|j
 .cases hi;simp[bw,eI,h1,h2]
 .cases hi;simp[bw,eI,h3,h4]
 .cases hi;simp[bw,dP,h5,h6]
 .cases hi;rcases h7 with e|e<;>rw[e]<;>rfl
 .cases hi;simp[bw,dP,h8,h9]
 .cases hi;rcases h10 with e|e<;>rw[e]<;>rfl
 .exact absurd hi (by simp[Bx.ls])
def tO (h: -1000000000<=i/\i<=1000000000):eI (v0 i)=true:=by simp[eI,h.1,h.2]
def uq (h:0<=i/\i<=1000000000):dP (v0 i)=true:=by simp[dP,h.1,h.2]
section
variable {b:Addr}{h t l w s m i:Int}
def Ir (ro:Ro K R)(hk:2<=k)(z:Sep O H)(p:ah (aM R b ⟨h,t,l,w,s,m⟩) O Δ)(q:Q (v0 h) H):aa tab R k 13 [ut b,v4 "here"] H Q E:=dD (j:=0) ro hk (dM (z.pull p)).2 rfl rfl q
def HH (ro:Ro K R)(hk:2<=k)(z:Sep O H)(p:ah (aM R b ⟨h,t,l,w,s,m⟩) O Δ)(q:Q (v0 t) H):aa tab R k 13 [ut b,v4 "there"] H Q E:=dD (j:=1) ro hk (dM (z.pull p)).2 rfl rfl q
def EH (ro:Ro K R)(hk:2<=k)(z:Sep O H)(p:ah (aM R b ⟨h,t,l,w,s,m⟩) O Δ)(q:Q (v0 l) H):aa tab R k 13 [ut b,v4 "left"] H Q E:=dD (j:=2) ro hk (dM (z.pull p)).2 rfl rfl q
def Dw (ro:Ro K R)(hk:2<=k)(z:Sep O H)(p:ah (aM R b ⟨h,t,l,w,s,m⟩) O Δ)(q:Q (v0 w) H):aa tab R k 13 [ut b,v4 "way"] H Q E:=dD (j:=3) ro hk (dM (z.pull p)).2 rfl rfl q
def Jk (ro:Ro K R)(hk:2<=k)(z:Sep O H)(p:ah (aM R b ⟨h,t,l,w,s,m⟩) O Δ)(q:Q (v0 s) H):aa tab R k 13 [ut b,v4 "sign"] H Q E:=dD (j:=4) ro hk (dM (z.pull p)).2 rfl rfl q
def Ie (ro:Ro K R)(hk:2<=k)(z:Sep O H)(p:ah (aM R b ⟨h,t,l,w,s,m⟩) O Δ)(q:Q (v0 m) H):aa tab R k 13 [ut b,v4 "met"] H Q E:=dD (j:=5) ro hk (dM (z.pull p)).2 rfl rfl q
def qE {y:Bx}{j:Nat}{nm:Str}(ro:Ro K R)(hk:4<=k)(z:Sep O H)(r:aK (aM R b x) (aM R b y) O Γ')(hj:ou[j]? =some nm)(hf:bw j (v0 i)=true)(hx:x.ls.set j i=y.ls)(hy:x.ok->y.ok)(q:∀ H',Sep Γ' H'->Q wf H'):aa tab R k 14 [ut b,v4 nm,v0 i] H Q E:=by
 obtain⟨Δ,h1,h2⟩:=r.bC;obtain⟨hok,z2⟩:=dM (z.pull h1);refine Fo ro hk z2 hj hf (λH' z3=>q H' (Sep.push h2 (mK (hy hok) ?_)));rw[hx]at z3;exact z3
def Gw (ro:Ro K R)(hk:4<=k)(z:Sep O H)(r:aK (aM R b ⟨h,t,l,w,s,m⟩) (aM R b ⟨i,t,l,w,s,m⟩) O Γ')(hi: -1000000000<=i/\i<=1000000000)(q:∀ H',Sep Γ' H'->Q wf H'):aa tab R k 14 [ut b,v4 "here",v0 i] H Q E:=
 qE (j:=0) ro hk z r rfl (tO hi) rfl (λ⟨_,a⟩=>⟨hi,a⟩) q
def Gu (ro:Ro K R)(hk:4<=k)(z:Sep O H)(r:aK (aM R b ⟨h,t,l,w,s,m⟩) (aM R b ⟨h,i,l,w,s,m⟩) O Γ')(hi: -1000000000<=i/\i<=1000000000)(q:∀ H',Sep Γ' H'->Q wf H'):aa tab R k 14 [ut b,v4 "there",v0 i] H Q E:=
 qE (j:=1) ro hk z r rfl (tO hi) rfl (λ⟨a1,_,a⟩=>⟨a1,hi,a⟩) q
def Hy (ro:Ro K R)(hk:4<=k)(z:Sep O H)(r:aK (aM R b ⟨h,t,l,w,s,m⟩) (aM R b ⟨h,t,i,w,s,m⟩) O Γ')(hi:0<=i/\i<=1000000000)(q:∀ H',Sep Γ' H'->Q wf H'):aa tab R k 14 [ut b,v4 "left",v0 i] H Q E:=
 qE (j:=2) ro hk z r rfl (uq hi) rfl (λ⟨a1,a2,_,a⟩=>⟨a1,a2,hi,a⟩) q
def JJ (ro:Ro K R)(hk:4<=k)(z:Sep O H)(r:aK (aM R b ⟨h,t,l,w,s,m⟩) (aM R b ⟨h,t,l,w,s,i⟩) O Γ')(hi:i=0\/i=1)(q:∀ H',Sep Γ' H'->Q wf H'):aa tab R k 14 [ut b,v4 "met",v0 i] H Q E:=
 qE (j:=5) ro hk z r rfl (by rcases hi with rfl|rfl<;>rfl) rfl (λ⟨a1,a2,a3,a4,a5,_⟩=>⟨a1,a2,a3,a4,a5,hi⟩) q
def uD (ro:Ro K R)(hk:1<=k)(z:Sep O H)(p:ah (aM R b x) O Δ)(q:∀ t H',Sep (tu t (x.ls.map v0)::O) H'->Q (ut t) H'):aa tab R k 15 [ut b] H Q E:=by
 obtain⟨hok,z2⟩:=dM (z.pull p);exact BE ro hk z2 (λt H' z3=>q t H' (Sep.push (.t p) (mK hok (z3.pull .k1))))
def BI (ro:Ro K R)(hk:4<=k)(hx:x.ok)(z:Sep (pt b (wp (R.cad 8) dx [])::pt dx (.own b)::O) H)(q:∀ H',Sep (aM R b x::O) H'->Q wf H'):
  aa tab R k 12 (ut b::x.ls.map v0) H Q E:=ug ro hk rfl (Ec hx) z (λH' z2=>q H' (mK hx z2))
def zr (ro:Ro K R)(hk:4<=k)(hx:(Bx.mk h t l w s m).ok)(z:Sep (pt b (wp (R.cad 8) dx [])::pt dx (.own b)::O) H)(q:∀ H',Sep (aM R b ⟨h,t,l,w,s,m⟩::O) H'->Q wf H'):
  aa tab R k 12 [ut b,v0 h,v0 t,v0 l,v0 w,v0 s,v0 m] H Q E:=BI (x:=⟨h,t,l,w,s,m⟩) ro hk hx z q
end
abbrev gt (cs:List Int)(i:Int):Int:=(cs[i.toNat]?).getD 0
def Cy {cs:List Int}{x:Int}(h:cs[i.toNat]? =some x):gt cs i=x:=by unfold gt;rw[h];rfl
def BS {cs:List Int}(h0:0<=i)(h1:i<cs.length):cs[i.toNat]? =some (gt cs i):=by
 unfold gt;rw[li nofun]
 rfl
def di {cs:List Int}(h0:0<=i)(h1:i<cs.length):kO (cs.map v0) i=some (v0 (gt cs i)):=aW h0 (by rw[im,BS h0 h1];rfl)
def dF {cs:List Int}(hc:aR cs):0<=gt cs i/\gt cs i<=1000000000:=by
 unfold gt;cases e:cs[i.toNat]? with
 |none=>exact⟨by decide,by decide⟩
 |some x=>exact hc x (cr e)
abbrev uM (cs:List Int)(ws:List Str):Prop:=cs.length=ws.length/\1<=cs.length/\cs.length<=60/\aR cs
abbrev cP (R:Rt)(a:Addr)(cs:List Int)(ws:List Str):aw:=bx λ_:Unit=>[ba (R.cad 9) a (cs.map v0) (ws.map v4),pu (uM cs ws)]
def jX {cs:List Int}(s:Sep (cP R a cs ws::O) H):uM cs ws/\Sep (ba (R.cad 9) a (cs.map v0) (ws.map v4)::O) H:=by
 obtain⟨_,s⟩:=ki s;have s:Sep (ba (R.cad 9) a (cs.map v0) (ws.map v4)::pu (uM cs ws)::O) H:=s;exact⟨(s.pull .k1).pure,(s.pull .k1).drop⟩
def kY {cs:List Int}(hx:uM cs ws)(s:Sep (ba (R.cad 9) a (cs.map v0) (ws.map v4)::O) H):Sep (cP R a cs ws::O) H:=jr () (Sep.push .k1 (Sep.yN hx s))
def rN {cs:List Int}(s:Sep O H)(p:ah (cP R a cs ws) O Δ):uM cs ws:=(jX (s.pull p)).1
def fN {cs:List Int}:Ob R (cP R a cs ws) a 9 ["contents","permits"]:=by
 rintro H D ⟨_,D1,D2,_,_,_,⟨⟨dx,c,d⟩,E1,E2,_,_,_,⟨_,h⟩,_⟩,_⟩;exact⟨dx,_,h,rfl⟩
section
variable {a:Addr}{cs:List Int}{ws:List Str}{i v:Int}
def Ah (hk:3<=k)(z:Sep O H)(p:ah (cP R a cs ws) O Δ)(q0:ai ws "look" i=true->Q (v0 (gt cs i)) H)
  (q1:ai ws "look" i=false->∀ e H',Sep (jE (R.cad 2) [("deed",v4 "look"),("cell",v0 i)] e false::O) H'->E e H'):aa tab R k 23 [ut a,v0 i] H Q E:=by
 obtain⟨hok,z2⟩:=jX (z.pull p);refine ER hk z2 (by rw[ce];exact hok.1) (λhm x hx=>?_) (λhm e H' z3=>q1 hm e H' (Sep.push (.t p) (kY hok (z3.pull .k1))));rw[im]at hx;obtain⟨y,hy,rfl⟩:=nl.mp hx;rw[<-Cy hy];exact q0 hm
def D7 (hk:3<=k)(z:Sep O H)(r:aK (cP R a cs ws) (cP R a (cs.set i.toNat v) ws) O Γ')(hv:0<=v/\v<=1000000000)(q0:ai ws "put" i=true->∀ H',Sep Γ' H'->Q wf H')
  (q1:ai ws "put" i=false->∀ e H',Sep (jE (R.cad 2) [("deed",v4 "put"),("cell",v0 i)] e false::O) H'->E e H'):aa tab R k 24 [ut a,v0 i,v0 v] H Q E:=by
 obtain⟨Δ,p,p'⟩:=r.bC;obtain⟨hok,z2⟩:=jX (z.pull p);refine HY hk z2 (by rw[ce];exact hok.1) (λhm H' z3=>q0 hm H' ?_) (λhm e H' z3=>q1 hm e H' (Sep.push (.t p) (kY hok (z3.pull .k1))));refine Sep.push p' (kY ⟨by rw[length_set];exact hok.1,by rw[length_set];exact hok.2.1,by rw[length_set];exact hok.2.2.1,cT hok.2.2.2 hv.1 hv.2⟩ ?_);rw[List.map_set];exact z3
def Fm {d:Str}(hk:2<=k)(z:Sep O H)(p:ah (cP R a cs ws) O Δ)(q:Q (.bl (ai ws d i)) H):aa tab R k 22 [ut a,v4 d,v0 i] H Q E:=by
 obtain⟨hok,z2⟩:=jX (z.pull p);exact xk hk z2 (by rw[ce];exact hok.1) q
def uA (hk:1<=k)(z:Sep O H)(p:ah (cP R a cs ws) O Δ)(q:∀ l H',Sep (pt l (wl (cs.map v0))::O) H'->Q (ut l) H'):aa tab R k 21 [ut a] H Q E:=by
 obtain⟨hok,z2⟩:=jX (z.pull p);exact Du hk z2 (λl H' z3=>q l H' (Sep.push (.t p) (kY hok (z3.pull .k1))))
end
def vy {cs:List Int}(h1:1<=cs.length)(h60:cs.length<=60)(hc:aR cs):bad (cs.map v0)=none:=by
 refine pJ (by rw[ce];exact⟨h1,h60⟩) λi y hy=>?_
 rw[im]at hy;obtain⟨z,hz,rfl⟩:=nl.mp hy;exact uq (hc z (cr hz))
def xZ {cs:List Int}(s:Sep O H):Sep (tys (cs.map v0)::O) H:=Sep.Iy (λx hx=>by
 obtain⟨z,_,rfl⟩:=List.mem_map.mp hx;exact⟨"int",rfl⟩) s
def uy {p:Addr}{cs:List Int}(ro:Ro K R)(hk:4<=k)(h1:1<=cs.length)(h60:cs.length<=60)(hc:aR cs)(s:Sep (pt p (wp (R.cad 9) dx [])::pt dx (.own p)::O) H)(h:ah (pt a (wl (cs.map v0))) O Δ)
  (q:∀ H',Sep (cP R p cs (sn cs.length "open")::O) H'->Q wf H'):aa tab R k 19 [ut p,ut a] H Q E:=by
 have s2:=xZ (cs:=cs) (s.pull (.j2 h));refine nj (a:=a) (dx:=dx) (O:=Δ) ro hk (s2.sub ?_) (λ_ H' z=>q H' ?_) (λat' hb=>absurd hb (by rw[vy h1 h60 hc];exact λz=>nomatch z))
 .ac_nf
 .refine Sep.push (.t h) ?_;have e:sn (cs.map v0).length (v4 "open")=(sn cs.length ("open":Str)).map v4:=by rw[ce,map_replicate]
  rw[e]at z;have z2:=kY (cs:=cs) ⟨by rw[length_replicate],h1,h60,hc⟩ z;exact z2.sub (by ac_nf)
def a8 {T:Tab}{f:Nat}{vs vs':List V}(e:vs=vs')(h:aa T R k f vs' H Q E):aa T R k f vs H Q E:=e▸h
local macro_rules| `(tactic|walk_at "ag")=>`(tactic|first|refine a8 (vs':=[_,_]) rfl ?_|refine a8 (vs':=[_,_,_]) rfl ?_|refine a8 (vs':=[_]) rfl ?_|refine a8 (vs':=[_,_,_,_]) rfl ?_)
local macro_rules| `(tactic|walk_at "mt")=>`(tactic|first|((with_reducible refine' ag bb ?s ?p ?m ?f ?_);(case s=>with_reducible assumption);(case p=>symm);(case m=>exact rfl);(case f=>exact rfl))|((with_reducible refine' ag fN ?s ?p ?m ?f ?_);(case s=>with_reducible assumption);(case p=>symm);(case m=>exact rfl);(case f=>exact rfl)))
local macro_rules| `(tactic|walk_at "hq")=>`(tactic|((with_reducible (first|refine' Ir ?r ?k ?s ?p ?_|refine' HH ?r ?k ?s ?p ?_|refine' EH ?r ?k ?s ?p ?_|refine' Dw ?r ?k ?s ?p ?_|refine' Jk ?r ?k ?s ?p ?_|refine' Ie ?r ?k ?s ?p ?_));(case r=>with_reducible assumption);(case k=>exact nofun);(case s=>with_reducible assumption);(case p=>symm)))
local macro_rules| `(tactic|walk_at "gq")=>`(tactic|((with_reducible (first|refine' Gw ?r ?k ?s ?p ?i (λH hs=>?_)|refine' Gu ?r ?k ?s ?p ?i (λH hs=>?_)|refine' Hy ?r ?k ?s ?p ?i (λH hs=>?_)|refine' JJ ?r ?k ?s ?p ?i (λH hs=>?_)));(case r=>with_reducible assumption);(case k=>exact nofun);(case s=>with_reducible assumption);(case p=>ac_rfl);(case i=>omega)))
local macro_rules| `(tactic|walk_at "ws")=>`(tactic|(walk_at "w";repeat(first|(walk_at "st";walk_at "w")|(walk_at "mt";walk_at "w")|(walk_at "ag";(walk_at "hq");walk_at "w")|(walk_at "ag";(walk_at "gq");walk_at "w"))))
local macro_rules| `(tactic|walk_at "sc")=>`(tactic|first|(refine aG (by decide+kernel) ?_;walk_at "go")|(refine ar (by decide+kernel) ?_;walk_at "go"))
inductive Out where
 |on (r:Int) (x:Bx) (cs:List Int)
 |no (d:Str) (c:Int)
section
variable {b a:Addr}{h t l w s m i j by':Int}{cs:List Int}{ws:List Str}
def EV (ro:Ro K R)(hk:5<=k)(z:Sep O H)(r:aK (aM R b ⟨h,t,l,w,s,m⟩) (aM R b ⟨h+i,t,l,w,s,m⟩) O Γ')(hi: -1000000000<=h+i/\h+i<=1000000000)(q:∀ H',Sep Γ' H'->Q wf H'):aa tab R k 68 [ut b,v4 "here",v0 i] H Q E:=by
 obtain⟨Δ,p1,p2⟩:=r.bC;delta nH;left;refine⟨rfl,?_⟩;left;refine ag bb z p1 rfl rfl ?_;left;refine⟨rfl,?_⟩;left;refine ag bb z p1 rfl rfl ?_;left;refine Ir ro nofun z p1 ?_;left;exact Gw ro nofun z r hi q
def Gh (ro:Ro K R)(hk:5<=k)(z:Sep O H)(r:aK (aM R b ⟨h,t,l,w,s,m⟩) (aM R b ⟨h,t+i,l,w,s,m⟩) O Γ')(hi: -1000000000<=t+i/\t+i<=1000000000)(q:∀ H',Sep Γ' H'->Q wf H'):aa tab R k 68 [ut b,v4 "there",v0 i] H Q E:=by
 obtain⟨Δ,p1,p2⟩:=r.bC;delta nH;left;refine⟨rfl,?_⟩;left;refine ag bb z p1 rfl rfl ?_;left;refine⟨rfl,?_⟩;left;refine ag bb z p1 rfl rfl ?_;left;refine HH ro nofun z p1 ?_;left;exact Gu ro nofun z r hi q
def Kf (ro:Ro K R)(hk:5<=k)(z:Sep O H)(r:aK (aM R b ⟨h,t,l,w,s,m⟩) (aM R b ⟨h,t,l+i,w,s,m⟩) O Γ')(hi:0<=l+i/\l+i<=1000000000)(q:∀ H',Sep Γ' H'->Q wf H'):aa tab R k 68 [ut b,v4 "left",v0 i] H Q E:=by
 obtain⟨Δ,p1,p2⟩:=r.bC;delta nH;left;refine⟨rfl,?_⟩;left;refine ag bb z p1 rfl rfl ?_;left;refine⟨rfl,?_⟩;left;refine ag bb z p1 rfl rfl ?_;left;refine EH ro nofun z p1 ?_;left;exact Hy ro nofun z r hi q
abbrev fin (l:Int):Int:=if l=0 then 1 else 0
def pH (ro:Ro K R)(hk:6<=k)(z:Sep O H)(r:aK (aM R b ⟨h,t,l,w,s,m⟩) (aM R b ⟨h,t,l+ -i,w,s,m⟩) O Γ')(hi:0<=l+ -i/\l+ -i<=1000000000)(q:∀ H',Sep Γ' H'->Q (v0 (fin (l+ -i))) H'):aa tab R k 70 [ut b,v0 i] H Q E:=by
 obtain⟨Δ,p1,p2⟩:=r.bC;delta jm;right;refine Kf ro nofun z r hi (λH1 z1=>?_);right;refine ag bb z1 p2 rfl rfl ?_;left;refine EH ro nofun z1 p2 ?_;right;refine aN (λe=>?_) (λe=>?_)
 .right;have q:=q H1 z1;rw[fin,if_pos e]at q;exact q
 .right;have q:=q H1 z1;rw[fin,if_neg e]at q;exact q
abbrev hm (cs:List Int)(ws:List Str)(i j:Int)(f:List Int->Out):Out:=
 if ai ws "look" i=true then(if ai ws "put" j=true then f (cs.set j.toNat (gt cs i)) else .no "put" j) else .no "look" i
abbrev fO (x:Bx)(cs:List Int)(ws:List Str):Out:=
 if x.l=0 then .on 1 x cs else if x.t<=x.h then hm cs ws x.h x.t λcs'=>.on (fin (x.l+ -1)) ⟨x.h+1,x.t+1,x.l+ -1,x.w,x.s,x.m⟩ cs'
 else hm cs ws (x.h+x.l-1) (x.t+x.l-1) λcs'=>.on (fin (x.l+ -1)) ⟨x.h,x.t,x.l+ -1,x.w,x.s,x.m⟩ cs'
abbrev xm (cs:List Int)(ws:List Str)(i j:Int)(f:List Int->Out):Out:=
 if ai ws "look" i=true then(if ai ws "look" j=true then(if ai ws "put" i=true then(if ai ws "put" j=true then f ((cs.set i.toNat (gt cs j)).set j.toNat (gt cs i)) else .no "put" j) else .no "put" i) else .no "look" j) else .no "look" i
abbrev kg (x:Bx)(cs:List Int)(ws:List Str):Out:=
 if x.l=0 then .on 1 x cs else if x.l=1 then .on 1 ⟨x.h,x.t,0,x.w,x.s,x.m⟩ cs else xm cs ws x.h (x.h+x.l-1) λcs'=>.on (fin (x.l+ -2)) ⟨x.h+1,x.t,x.l+ -2,x.w,x.s,x.m⟩ cs'
end
section
variable {b a:Addr}{h t l w s m i j:Int}{cs:List Int}{ws:List Str}
def Di (ro:Ro K R)(hk:6<=k)(z:Sep O H)(r:aK (aM R b ⟨h,t,l,w,s,m⟩) (aM R b ⟨h+w,t,l,w,s,m⟩) O Γ')(hi: -1000000000<=h+w/\h+w<=1000000000)(q:∀ H',Sep Γ' H'->Q wf H'):aa tab R k 69 [ut b,v4 "here"] H Q E:=by
 obtain⟨Δ,p1,p2⟩:=r.bC;delta eD;left;refine⟨rfl,?_⟩;left;refine⟨rfl,?_⟩;left;refine ag bb z p1 rfl rfl ?_;left;refine Dw ro nofun z p1 ?_;left;exact EV ro nofun z r hi q
def E4 (ro:Ro K R)(hk:6<=k)(z:Sep O H)(r:aK (aM R b ⟨h,t,l,w,s,m⟩) (aM R b ⟨h,t+w,l,w,s,m⟩) O Γ')(hi: -1000000000<=t+w/\t+w<=1000000000)(q:∀ H',Sep Γ' H'->Q wf H'):aa tab R k 69 [ut b,v4 "there"] H Q E:=by
 obtain⟨Δ,p1,p2⟩:=r.bC;delta eD;left;refine⟨rfl,?_⟩;left;refine⟨rfl,?_⟩;left;refine ag bb z p1 rfl rfl ?_;left;refine Dw ro nofun z p1 ?_;left;exact Gh ro nofun z r hi q
abbrev jZ (x:Bx)(cs:List Int)(ws:List Str):Out:=
 if x.l=0 then .on 1 x cs else hm cs ws x.h x.t λcs'=>.on (fin (x.l+ -1)) ⟨x.h+x.w,x.t+x.w,x.l+ -1,x.w,x.s,x.m⟩ cs'
abbrev j7 (x:Bx)(cs:List Int)(ws:List Str):Out:=
 if x.l=0 then .on 1 x cs else if ai ws "put" x.t=true then .on (fin (x.l+ -1)) ⟨x.h,x.t+x.w,x.l+ -1,x.w,x.s,x.m⟩ (cs.set x.t.toNat x.s) else .no "put" x.t
abbrev k6 (x:Bx)(cs:List Int)(ws:List Str):Out:=
 if x.l=0 then .on 1 ⟨x.h,x.t,x.l,x.w,x.s,0⟩ cs else if ai ws "look" x.h=true then
  (if gt cs x.h=x.s then .on 1 ⟨x.h,x.t,x.l,x.w,x.s,1⟩ cs else .on (fin (x.l+ -1)) ⟨x.h+x.w,x.t,x.l+ -1,x.w,x.s,0⟩ cs) else .no "look" x.h
abbrev fZ (x:Bx)(cs:List Int)(ws:List Str):Out:=
 if x.l=0 then .on 1 ⟨x.h,x.t,x.l,x.w,x.s,1⟩ cs else if ai ws "look" x.h=true then(if ai ws "look" x.t=true then
  (if gt cs x.h=gt cs x.t then .on (fin (x.l+ -1)) ⟨x.h+x.w,x.t+x.w,x.l+ -1,x.w,x.s,1⟩ cs else .on 1 ⟨x.h,x.t,x.l,x.w,x.s,0⟩ cs) else .no "look" x.t) else .no "look" x.h
def nt {c:Bool}(h:c=false):¬ c=true:=by rw[h];decide
end
abbrev b2i (c:Bool):Int:=match c with
 |true=>1
 |false=>0
def jO {G:Gx}{c:Bool}(q:Q (v0 (b2i c)) H):rY G .int [.bl c] H Q:=by
 unfold rY;refine .inr ⟨c,rfl,?_⟩;cases c<;>exact q
section
variable {cs:List Int}{f g:Nat->Int}{i v:Int}
end
abbrev dd (R:Rt)(d:Addr)(c:Nat):aw:=bx λdx:Addr=>[pt d (wp (R.cad c) dx []),pt dx (.own d)]
def J8 {c:Nat}(s:Sep (pt d (wp (R.cad c) dx [])::pt dx (.own d)::O) H):Sep (dd R d c::O) H:=jr dx s
def GN {c:Nat}:Ob R (dd R d c) d c []:=by
 rintro H D ⟨dx,D1,D2,_,_,_,⟨_,h⟩,_⟩;exact⟨dx,_,h,rfl⟩
abbrev ay (d:Addr)(x:Bx):aw:=pt d (.dK (wg.zip (x.ls.map v0)))
section
variable {d:Addr}{h t l w s m i:Int}{P:Hp->Prop}
def JT {K:W.Frag}(z:Sep O H)(p:ah (ay d ⟨h,t,l,w,s,m⟩) O Δ)(q:Q (v0 h) H):qK K (ut d) (v4 "here") H Q:=qC (k:=.inr "here") (z.get p) rfl q
def JP {K:W.Frag}(z:Sep O H)(p:ah (ay d ⟨h,t,l,w,s,m⟩) O Δ)(q:Q (v0 t) H):qK K (ut d) (v4 "there") H Q:=qC (k:=.inr "there") (z.get p) rfl q
def Kg {K:W.Frag}(z:Sep O H)(p:ah (ay d ⟨h,t,l,w,s,m⟩) O Δ)(q:Q (v0 l) H):qK K (ut d) (v4 "left") H Q:=qC (k:=.inr "left") (z.get p) rfl q
def Jr {K:W.Frag}(z:Sep O H)(p:ah (ay d ⟨h,t,l,w,s,m⟩) O Δ)(q:Q (v0 w) H):qK K (ut d) (v4 "way") H Q:=qC (k:=.inr "way") (z.get p) rfl q
def Ke {K:W.Frag}(z:Sep O H)(p:ah (ay d ⟨h,t,l,w,s,m⟩) O Δ)(q:Q (v0 s) H):qK K (ut d) (v4 "sign") H Q:=qC (k:=.inr "sign") (z.get p) rfl q
def pR {y:Bx}{j:Nat}{nm:Str}(z:Sep O H)(r:aK (ay d x) (ay d y) O Γ')(hj:ou[j]? =some nm)(hx:x.ls.set j i=y.ls)(q:∀ H',Sep Γ' H'->P H'):gi (ut d) (v4 nm) (v0 i) H P:=by
 refine t9 (k:=.inr nm) z r (ol rfl) ?_ q;rw[<-hx];exact t7 rfl hj
def Jq (z:Sep O H)(r:aK (ay d ⟨h,t,l,w,s,m⟩) (ay d ⟨i,t,l,w,s,m⟩) O Γ')(q:∀ H',Sep Γ' H'->P H'):gi (ut d) (v4 "here") (v0 i) H P:=pR (j:=0) z r rfl rfl q
def Ki (z:Sep O H)(r:aK (ay d ⟨h,t,l,w,s,m⟩) (ay d ⟨h,i,l,w,s,m⟩) O Γ')(q:∀ H',Sep Γ' H'->P H'):gi (ut d) (v4 "there") (v0 i) H P:=pR (j:=1) z r rfl rfl q
def JF (z:Sep O H)(r:aK (ay d ⟨h,t,l,w,s,m⟩) (ay d ⟨h,t,i,w,s,m⟩) O Γ')(q:∀ H',Sep Γ' H'->P H'):gi (ut d) (v4 "left") (v0 i) H P:=pR (j:=2) z r rfl rfl q
def JA (z:Sep O H)(r:aK (ay d ⟨h,t,l,w,s,m⟩) (ay d ⟨h,t,l,w,s,i⟩) O Γ')(q:∀ H',Sep Γ' H'->P H'):gi (ut d) (v4 "met") (v0 i) H P:=pR (j:=5) z r rfl rfl q
def wF (z:Sep O H)(r:aK (pt d (.dK [])) (ay d ⟨h,t,l,w,s,m⟩) O Γ')(q:∀ H',Sep Γ' H'->Q (ut d) H'):lR ["here","there","left","way","sign","met"] d [v0 h,v0 t,v0 l,v0 w,v0 s,v0 m] H Q:=by
 obtain⟨Δ,p1,p2⟩:=r.bC;unfold lR;exact⟨z.get p1,q _ (z.put r rfl)⟩
end
local macro_rules| `(tactic|walk_at "sx")=>`(tactic|((with_reducible (first|refine' JT ?s ?p ?_|refine' JP ?s ?p ?_|refine' Kg ?s ?p ?_|refine' Jr ?s ?p ?_|refine' Ke ?s ?p ?_|refine' dx_m ?s ?p ?_));(case s=>with_reducible assumption);(case p=>symm)))
local macro_rules| `(tactic|walk_at "sy")=>`(tactic|((with_reducible (first|refine' Jq ?s ?p (λH hs=>?_)|refine' Ki ?s ?p (λH hs=>?_)|refine' JF ?s ?p (λH hs=>?_)|refine' ds_w ?s ?p (λH hs=>?_)|refine' ds_s ?s ?p (λH hs=>?_)|refine' JA ?s ?p (λH hs=>?_)));(case s=>with_reducible assumption);(case p=>ac_rfl)))
local macro_rules| `(tactic|walk_at "wd")=>`(tactic|(walk_at "w";repeat(first|(walk_at "sx";walk_at "w")|(walk_at "sy";walk_at "w")|(walk_at "st";walk_at "w")|(refine jO ?_;walk_at "w"))))
def yz {d:Str}(hk:1<=k)(z:Sep O H)(p:ah (pt lv (wl (ws.map v4))) O Δ)(q:Q (.bl (ai ws d i)) H):aa tab R k 96 [ut lv,v4 d,v0 i] H Q E:=by
 have e0:H lv=some (wl (ws.map v4)):=z.get p;have no:(i<0\/¬ i<ws.length)->ai ws d i=false:=λh=>by
  unfold ai;rcases h with h|h
  .rw[decide_eq_false (by omega:¬ 0<=i),Bool.false_and]
  .rw[decide_eq_false h,Bool.false_and,Bool.and_false]
 delta kF;left;refine aD (λh0=>?_) (λh0=>?_)
 .right;rw[no (.inl h0)]at q;exact q
 left;refine jJ e0 ?_;left;rw[ce];refine aD (λh1=>?_) (λh1=>?_)
 .right;rw[no (.inr nofun)]at q;exact q
 have h2:i.toNat<ws.length:=by omega
 have e1:ws[i.toNat]? =some ws[i.toNat]:=li h2;generalize ws[i.toNat]=w at e1;have e2:(ws.map v4)[i.toNat]? =some (v4 w):=by rw[im,e1];rfl
 have e3:ai ws d i=(if w="look" then d =="look" else w =="open"):=by
  unfold ai;rw[e1,decide_eq_true (by omega:0<=i),decide_eq_true (by omega:i<ws.length)]
  rfl
 left;refine az e0 (aW nofun e2) ?_;right;refine cj (λhw=>?_) (λhw=>?_)
 .have hw:w="open":=by simpa[cH] using hw
  subst hw;rw[e3,if_neg (by decide+kernel)]at q;right;exact q
 .have hw:¬ w="open":=by simpa[cH] using hw
  left;refine az e0 (aW nofun e2) ?_;right;refine cj (λhl=>?_) (λhl=>?_)
  .have hl:w="look":=by simpa[cH] using hl
   rw[e3,if_pos hl]at q;right;exact q
  .have hl:¬ w="look":=by simpa[cH] using hl
   have e4:(w ==("open":Str))=false:=by simpa using hw
   rw[e3,if_neg hl,e4]at q;right;exact q
inductive Wd where
 |copy|fill|seek|mtch|shift|turn
abbrev Wd.s:Wd->Str
 | .copy=>"copy"
 | .fill=>"fill"
 | .seek=>"seek"
 | .mtch=>"match"
 | .shift=>"shift"
 | .turn=>"turn"
abbrev Av (h t l:Int):Wd->List Int
 | .copy=>[h]
 | .fill=>[]
 | .seek=>[h]
 | .mtch=>[h,t]
 | .shift=>if t<=h then[h+0] else[h+(l-1)]
 | .turn=>if l=1 then[] else[h,h+l-1]
abbrev zM (h t l:Int):Wd->List Int
 | .copy=>[t]
 | .fill=>[t]
 | .seek=>[]
 | .mtch=>[]
 | .shift=>if t<=h then[t+0] else[t+(l-1)]
 | .turn=>if l=1 then[] else[h,h+l-1]
abbrev my (wd:Wd)(x:Bx):List Int:=if x.l=0 then[] else Av x.h x.t x.l wd
abbrev k9 (wd:Wd)(x:Bx):List Int:=if x.l=0 then[] else zM x.h x.t x.l wd
abbrev aV (ws:List Str)(d:Str):List Int->Option (Str×Int)
 | []=>none
 |c::r=>if ai ws d c=true then aV ws d r else some (d,c)
abbrev bD (ws:List Str)(ls ps:List Int):Option (Str×Int):=match aV ws "look" ls with
 |some r=>some r
 |none=>aV ws "put" ps
def kj {ws:List Str}{d:Str}:∀ {l:List Int},(∀ c ∈ l,ai ws d c=true)->aV ws d l=none
 | [],_=>rfl
 |c::r,h=>by
  unfold aV;rw[if_pos (h c lw)];exact kj λc hc=>h c (dl _ hc)
def mU {ws:List Str}{d:Str}{c:Int}:∀ {l:List Int}{j:Nat},(∀ i x,i<j->l[i]? =some x->ai ws d x=true)->l[j]? =some c->ai ws d c=false->aV ws d l=some (d,c)
 | [],_,_,h,_=>by simp at h
 |a::r,0,_,h,hc=>by
  have:a=c:=by simpa using h
  subst this;unfold aV;rw[if_neg (nt hc)]
 |a::r,j+1,hb,h,hc=>by
  unfold aV;rw[if_pos (hb 0 a (Nat.succ_pos _) rfl)];exact mU (λi x hi hx=>hb (i+1) x (Nat.succ_lt_succ hi) (by simpa using hx)) (by simpa using h) hc
abbrev bK:Wd->Bx->List Int->List Str->Out
 | .copy=>jZ
 | .fill=>j7
 | .seek=>k6
 | .mtch=>fZ
 | .shift=>fO
 | .turn=>kg
abbrev i9 (d p:Addr)(O:List aw)(Q:VK):Out->Prop
 | .on r x' cs'=>∀ H',Sep (ay d x'::pt p (wl (cs'.map v0))::O) H'->Q (v0 r) H'
 | .no _ _=>True
def aE {d:Str}{r:List Int}(h:aV ws d (c::r)=none):ai ws d c=true/\aV ws d r=none:=by
 unfold aV at h
 by_cases e:ai ws d c=true
 .rw[if_pos e]at h;exact⟨e,h⟩
 .rw[if_neg e]at h;cases h
def gq {ls ps:List Int}(h:bD ws ls ps=none):aV ws "look" ls=none/\aV ws "put" ps=none:=by
 unfold bD at h
 split at h
 .cases h
 .rename_i e;exact⟨e,h⟩
def l9:b2i (cH (v0 l) (v0 0))=fin l:=by
 show b2i (l ==0)=_;unfold fin
 by_cases e:l=0
 .rw[if_pos e,e];rfl
 .rw[if_neg e,show(l ==0)=false by simpa using e];rfl
def cw {cs:List Int}{v:Int}:(cs.map v0).set n (v0 v)=(cs.set n v).map v0:=by rw[List.map_set]
def zp:b2i (cH (v0 l) (v0 1))=fin (l+ -1):=by
 show b2i (l ==1)=_;unfold fin
 by_cases e:l=1
 .rw[if_pos nofun,e];rfl
 .rw[if_neg nofun,show(l ==1)=false by simpa using e];rfl
def zY:l-1=l+ -1:=by omega
def KN:l-2=l+ -2:=by omega
def CL {j:Int}(h:i=j):cH (v0 i) (v0 j)=true:=by subst h;show(i ==i)=true;simp
def CB {j:Int}(h:i≠j):cH (v0 i) (v0 j)=false:=by show(i ==j)=false;simpa using h
variable {wd:Wd}
section
variable {d p:Addr}{h t l w s m:Int}{cs:List Int}{ws:List Str}
def qw (wd:Wd)(hw:wd=.seek\/wd=.mtch)(hk:1<=k)(hl:cs.length=ws.length)(hb:bD ws (my wd x) (k9 wd x)=none)(z:Sep (ay d x::pt p (wl (cs.map v0))::O) H)
  (q:i9 d p O Q (bK wd x cs ws)):aa tab R k 102 [v4 wd.s,ut d,ut p] H Q E:=by
 obtain⟨h,t,l,w,s,m⟩:=x;obtain⟨b1,b2⟩:=gq hb;have f1:b2i (cH (v4 Wd.seek.s) (v4 "match"))=0:=by decide+kernel
 have f2:b2i (cH (v4 Wd.mtch.s) (v4 "match"))=1:=by decide+kernel
 have f3:b2i (cH (v4 Wd.seek.s) (v4 "seek"))=1:=by decide+kernel
 have f4:b2i (cH (v4 Wd.mtch.s) (v4 "seek"))=0:=by decide+kernel
 have f5:cH (v4 Wd.seek.s) (v4 "seek")=true:=by decide+kernel
 have f6:cH (v4 Wd.mtch.s) (v4 "seek")=false:=by decide+kernel
 delta fu;rcases hw with rfl|rfl
 .have q:i9 d p O Q (k6 ⟨h,t,l,w,s,m⟩ cs ws):=q;walk_at "wd";refine aN (λe=>?_) (λe=>?_)
  .rw[k6,if_pos e]at q;walk_at "wd";rename_i H1 z1;rw[f1]at z1;exact q _ z1
  rw[k6,if_neg e]at q;have b1:aV ws "look" [h]=none:=(congrArg _ (if_neg e)).symm.trans b1;obtain⟨m1,_⟩:=aE b1;obtain⟨g1,g2⟩:=ao m1;rw[if_pos m1]at q;walk_at "wd"
  repeat walk_at "sc"
  refine az (by grind) (di g1 nofun) ?_;walk_at "wd";rw[f5]
  by_cases e2:gt cs h=s
  .rw[if_pos e2]at q;rw[CL e2];walk_at "wd";rename_i H1 z1;rw[f3]at z1;exact q _ z1
  .rw[if_neg e2]at q;rw[CB e2];walk_at "wd"
   repeat walk_at "sc"
   walk_at "wd";rename_i H1 z1 H2 z2 H3 z3;rw[f1,zY]at z3;rw[zp];exact q _ z3
 .have q:i9 d p O Q (fZ ⟨h,t,l,w,s,m⟩ cs ws):=q;walk_at "wd";refine aN (λe=>?_) (λe=>?_)
  .rw[fZ,if_pos e]at q;walk_at "wd";rename_i H1 z1;rw[f2]at z1;exact q _ z1
  rw[fZ,if_neg e]at q;have b1:aV ws "look" [h,t]=none:=(congrArg _ (if_neg e)).symm.trans b1;obtain⟨m1,b3⟩:=aE b1;obtain⟨m2,_⟩:=aE b3;obtain⟨g1,g2⟩:=ao m1;obtain⟨g3,g4⟩:=ao m2;rw[if_pos m1,if_pos m2]at q;walk_at "wd"
  repeat walk_at "sc"
  refine az (by grind) (di g3 nofun) ?_;walk_at "wd";refine az (by grind) (di g1 nofun) ?_;walk_at "wd";rw[f6]
  by_cases e2:gt cs h=gt cs t
  .rw[if_pos e2]at q;rw[CL e2];walk_at "wd"
   repeat walk_at "sc"
   walk_at "wd";rename_i H1 z1 H2 z2 H3 z3 H4 z4;rw[f2,zY]at z4;rw[zp];exact q _ z4
  .rw[if_neg e2]at q;rw[CB e2];walk_at "wd";rename_i H1 z1;rw[f4]at z1;exact q _ z1
def B6 (wd:Wd)(hk:2<=k)(hx:0<=x.l)(hl:cs.length=ws.length)(hb:bD ws (my wd x) (k9 wd x)=none)(z:Sep (ay d x::pt p (wl (cs.map v0))::O) H)
  (q:i9 d p O Q (bK wd x cs ws)):aa tab R k 101 [v4 wd.s,ut d,ut p] H Q E:=by
 delta gG;obtain⟨h,t,l,w,s,m⟩:=x;obtain⟨b1,b2⟩:=gq hb;dsimp only at hx;cases wd
 case seek=>
  walk_at "wd";rename_i p0 H0 z0;refine fX (bg.of z0.at) rfl rfl ?_;left;refine aG (by decide+kernel) ?_;left;refine⟨rfl,?_⟩;left;exact qw .seek (.inl rfl) nofun hl hb z0.drop q
 case mtch=>
  walk_at "wd";rename_i p0 H0 z0;refine fX (bg.of z0.at) rfl rfl ?_;left;refine aG (by decide+kernel) ?_;left;refine⟨rfl,?_⟩;left;exact qw .mtch (.inr rfl) nofun hl hb z0.drop q
 case copy=>
  have q:i9 d p O Q (jZ ⟨h,t,l,w,s,m⟩ cs ws):=q;walk_at "wd";rename_i p0 H0 z0;refine fX (bg.of z0.at) rfl rfl ?_;left;refine ar (by decide+kernel) ?_
  replace z0:=z0.drop
  walk_at "wd";refine aN (λe=>?_) (λe=>?_)
  .rw[jZ,if_pos e]at q;walk_at "wd";exact q _ z0
  have b1:aV ws "look" [h]=none:=(congrArg _ (if_neg e)).symm.trans b1;have b2:aV ws "put" [t]=none:=(congrArg _ (if_neg e)).symm.trans b2;have m1:=(aE b1).1;have m2:=(aE b2).1;obtain⟨g1,g2⟩:=ao m1;obtain⟨g3,g4⟩:=ao m2;rw[jZ,if_neg e,hm,if_pos m1,if_pos m2]at q;walk_at "wd";refine az (by grind) (di g1 nofun) ?_;walk_at "wd";refine fw z0 .k1 (dw g3 (by rw[ce];omega)) cw (λH1 z1=>?_);walk_at "wd"
  repeat walk_at "sc"
  walk_at "wd";rename_i H2 z2 H3 z3 H4 z4;rw[zY]at z4;rw[l9,zY];exact q _ z4
 case fill=>
  have q:i9 d p O Q (j7 ⟨h,t,l,w,s,m⟩ cs ws):=q;walk_at "wd";rename_i p0 H0 z0;refine fX (bg.of z0.at) rfl rfl ?_;left;refine ar (by decide+kernel) ?_
  replace z0:=z0.drop
  walk_at "wd";refine aN (λe=>?_) (λe=>?_)
  .rw[j7,if_pos e]at q;walk_at "wd";exact q _ z0
  have b2:aV ws "put" [t]=none:=(congrArg _ (if_neg e)).symm.trans b2;have m2:=(aE b2).1;obtain⟨g3,g4⟩:=ao m2;rw[j7,if_neg e,if_pos m2]at q;walk_at "wd";refine fw z0 .k1 (dw g3 (by rw[ce];omega)) cw (λH1 z1=>?_);walk_at "wd"
  repeat walk_at "sc"
  walk_at "wd";rename_i H2 z2 H3 z3;rw[zY]at z3;rw[l9,zY];exact q _ z3
 case shift=>
  have q:i9 d p O Q (fO ⟨h,t,l,w,s,m⟩ cs ws):=q;walk_at "wd";rename_i p0 H0 z0;refine fX (bg.of z0.at) rfl rfl ?_;left;refine ar (by decide+kernel) ?_
  replace z0:=z0.drop
  walk_at "wd";refine aN (λe=>?_) (λe=>?_)
  .rw[fO,if_pos e]at q;walk_at "wd";exact q _ z0
  rw[fO,if_neg e]at q;have b1:aV ws "look" (Av h t l .shift)=none:=(congrArg _ (if_neg e)).symm.trans b1;have b2:aV ws "put" (zM h t l .shift)=none:=(congrArg _ (if_neg e)).symm.trans b2;walk_at "wd"
  by_cases e2:t<=h
  .have b1:aV ws "look" [h+0]=none:=(congrArg _ (if_pos e2)).symm.trans b1;have b2:aV ws "put" [t+0]=none:=(congrArg _ (if_pos e2)).symm.trans b2;rw[Int.add_zero]at b1 b2;have m1:=(aE b1).1;have m2:=(aE b2).1;obtain⟨g1,g2⟩:=ao m1;obtain⟨g3,g4⟩:=ao m2;rw[if_pos e2,hm,if_pos m1,if_pos m2]at q;refine aG (decide_eq_true e2) ?_;walk_at "wd";refine az (by grind) (di g1 nofun) ?_;walk_at "wd";refine fw z0 .k1 (dw g3 (by rw[ce];omega)) cw (λH1 z1=>?_);walk_at "wd"
   repeat walk_at "sc"
   walk_at "wd";rename_i H2 z2 H3 z3 H4 z4;rw[zY]at z4;rw[l9,zY];exact q _ z4
  .have b1:aV ws "look" [h+(l-1)]=none:=(congrArg _ (if_neg e2)).symm.trans b1;have b2:aV ws "put" [t+(l-1)]=none:=(congrArg _ (if_neg e2)).symm.trans b2;rw[show h+(l-1)=h+l-1 by omega]at b1;rw[show t+(l-1)=t+l-1 by omega]at b2;have m1:=(aE b1).1;have m2:=(aE b2).1;obtain⟨g1,g2⟩:=ao m1;obtain⟨g3,g4⟩:=ao m2;rw[if_neg e2,hm,if_pos m1,if_pos m2]at q;refine ar (decide_eq_false e2) ?_;walk_at "wd";refine az (by grind) (di g1 nofun) ?_;walk_at "wd";refine fw z0 .k1 (dw g3 (by rw[ce];omega)) cw (λH1 z1=>?_);walk_at "wd"
   repeat walk_at "sc"
   walk_at "wd";rename_i H2 z2;rw[zY]at z2;rw[l9,zY];exact q _ z2
 case turn=>
  have q:i9 d p O Q (kg ⟨h,t,l,w,s,m⟩ cs ws):=q;walk_at "wd";rename_i p0 H0 z0;refine fX (bg.of z0.at) rfl rfl ?_;left;refine ar (by decide+kernel) ?_
  replace z0:=z0.drop
  walk_at "wd";refine aN (λe=>?_) (λe=>?_)
  .rw[kg,if_pos e]at q;walk_at "wd";exact q _ z0
  rw[kg,if_neg e]at q;have b1:aV ws "look" (Av h t l .turn)=none:=(congrArg _ (if_neg e)).symm.trans b1;have b2:aV ws "put" (zM h t l .turn)=none:=(congrArg _ (if_neg e)).symm.trans b2;walk_at "wd"
  repeat walk_at "sc"
  refine aD (λe2=>?_) (λe2=>?_)
  .have b1:aV ws "look" [h,h+l-1]=none:=(congrArg _ (if_neg nofun)).symm.trans b1;have b2:aV ws "put" [h,h+l-1]=none:=(congrArg _ (if_neg nofun)).symm.trans b2;obtain⟨m1,b1⟩:=aE b1;obtain⟨m3,b2⟩:=aE b2;have m2:=(aE b1).1;have m4:=(aE b2).1;obtain⟨g1,g2⟩:=ao m1;obtain⟨g3,g4⟩:=ao m2;rw[if_neg (show ¬ l=1 by omega),xm,if_pos m1,if_pos m2,if_pos m3,if_pos m4]at q;walk_at "wd";refine az (by grind) (di g1 nofun) ?_;walk_at "wd";refine az (by grind) (di g3 nofun) ?_;walk_at "wd";refine fw z0 .k1 (dw g1 (by rw[ce];omega)) cw (λH1 z1=>?_);walk_at "wd";refine fw z1 .k1 (dw g3 (by rw[ce,length_set];omega)) cw (λH2 z2=>?_);walk_at "wd";rename_i H3 z3 H4 z4;rw[KN]at z4;rw[l9,KN];exact q _ z4
  .have e1:l=1:=by omega
   subst e1;rw[if_pos rfl]at q;walk_at "wd";rename_i H3 z3;rw[l9];exact q _ z3
def iN {ls ps:List Int}{v:Str×Int}{a:Out}(h:bD ws (c::ls) ps=some v)(k:bD ws ls ps=some v->a=.no v.1 v.2):(if ai ws "look" c=true then a else .no "look" c)=.no v.1 v.2:=by
 unfold bD at h k;rw[aV]at h
 by_cases e:ai ws "look" c=true
 .rw[if_pos e]at h⊢;exact k h
 .rw[if_neg e]at h⊢;cases h;rfl
def mD {ps:List Int}{v:Str×Int}{a:Out}(h:bD ws [] (c::ps)=some v)(k:bD ws [] ps=some v->a=.no v.1 v.2):(if ai ws "put" c=true then a else .no "put" c)=.no v.1 v.2:=by
 have h:aV ws "put" (c::ps)=some v:=h;unfold aV at h
 by_cases e:ai ws "put" c=true
 .rw[if_pos e]at h⊢;exact k h
 .rw[if_neg e]at h⊢;cases h;rfl
def iO {v:Str×Int}{a:Out}(h:bD ws [] []=some v):a=.no v.1 v.2:=nomatch (show none=some v from h)
def Ek {dd:Str}(hx:0<=x.l)(hb:bD ws (my wd x) (k9 wd x)=some (dd,c)):bK wd x cs ws=.no dd c:=by
 obtain⟨h,t,l,w,s,m⟩:=x
 by_cases e:l=0
 .have e1:my wd ⟨h,t,l,w,s,m⟩=[]:=if_pos e;have e2:k9 wd ⟨h,t,l,w,s,m⟩=[]:=if_pos e;rw[e1,e2]at hb;cases hb
 have e1:my wd ⟨h,t,l,w,s,m⟩=Av h t l wd:=if_neg e;have e2:k9 wd ⟨h,t,l,w,s,m⟩=zM h t l wd:=if_neg e;rw[e1,e2]at hb;cases wd
 .exact(if_neg e).trans (iN hb λhb=>mD hb iO)
 .exact(if_neg e).trans (mD hb iO)
 .exact(if_neg e).trans (iN hb iO)
 .exact(if_neg e).trans (iN hb λhb=>iN hb iO)
 .refine(if_neg e).trans ?_
  by_cases e2:t<=h
  .rw[show Av h t l .shift=[h+0] from if_pos e2,show zM h t l .shift=[t+0] from if_pos e2,Int.add_zero,Int.add_zero]at hb;exact(if_pos e2).trans (iN hb λhb=>mD hb iO)
  .rw[show Av h t l .shift=[h+(l-1)] from if_neg e2,show zM h t l .shift=[t+(l-1)] from if_neg e2,<-Int.add_sub_assoc,<-Int.add_sub_assoc]at hb;exact(if_neg e2).trans (iN hb λhb=>mD hb iO)
 .refine(if_neg e).trans ?_
  by_cases e2:l=1
  .rw[show Av h t l .turn=[] from if_pos e2,show zM h t l .turn=[] from if_pos e2]at hb;exact iO hb
  .rw[show Av h t l .turn=[h,h+l-1] from if_neg e2,show zM h t l .turn=[h,h+l-1] from if_neg e2]at hb;exact(if_neg e2).trans (iN hb λhb=>iN hb λhb=>mD hb λhb=>mD hb iO)
end
def ei {xs:List α}(h0:0<=i)(h1:i<xs.length):∃ v,kO xs i=some v/\v ∈ xs:=by
 have hl:i.toNat<xs.length:=by omega
 refine⟨xs[i.toNat],?_,getElem_mem hl⟩;have:=L2.nK (li hl)
 rwa [Int.toNat_of_nonneg h0]at this
abbrev cI (ws:List Str):Prop:=∀ w ∈ ws,sR w=true
def pv {w:Str}(h:cI ws)(hw:sR w=true):cI (ws.set n w):=λx hx=>by
 rcases List.mem_or_eq_of_mem_set hx with hx|rfl
 .exact h x hx
 .exact hw
def vQ (hk:2<=k)(hm:m<=1099511000000)(h1:1<=n)(h60:n<=60)(s:Sep (hand h m::O) H)
  (q:∀ p ws H',ws.length=n->cI ws->Sep (pt p (wl (ws.map v4))::hand h (m+20)::O) H'->Q (ut p) H'):aa tab R k 90 [ut h,v0 n] H Q E:=by
 delta fD;walk_at "gd";rename_i l H1 hs1 b H2 hs2 l2 H3 hs3 r H4 r0 r1 hs4;rw[uE,show sn n (v4 "open")=(sn n ("open":Str)).map v4 by rw[map_replicate]]at hs4;obtain⟨v,hv,hmem⟩:=ei (xs:=[v0 0,v0 0,v0 1,v0 2,v0 4]) r0 (by simpa using r1);refine az (by grind) hv ?_;obtain⟨M,rfl,M0,M1⟩:∃ M:Int,v=v0 M/\0<=M/\M<=4:=by
  simp only[mo,not_mem_nil,or_false]at hmem;rcases hmem with rfl|rfl|rfl|rfl|rfl
  .exact⟨_,rfl,by omega,by omega⟩
  .exact⟨_,rfl,by omega,by omega⟩
  .exact⟨_,rfl,by omega,by omega⟩
  .exact⟨_,rfl,by omega,by omega⟩
  .exact⟨_,rfl,by omega,by omega⟩
 have hs5:Sep (pt b (wl ((sn n ("open":Str)).map v4))::hand h (m+1)::O) H4:=hs4.sub (by ac_nf);clear hs1 hs2 hs3 hs4 hv hmem;walk_at "gd";refine jI (n:=M.toNat) (λj U H=>∃ y3 y4 y5 y6,∃ ws:List Str,U=[some (ut h),some (v0 n),some (ut b),y3,y4,y5,y6]/\ws.length=n/\cI ws/\Sep (pt b (wl (ws.map v4))::hand h (m+1+3*(j:Int))::O) H) ?_ ?_ ?_
 .refine⟨_,_,_,_,_,rfl,length_replicate ..,λw hw=>?_,(aq (n:=m+1+3*((0:Nat):Int)) (hs5.pull .k1) nofun).pull .k1⟩;rw[(List.mem_replicate.mp hw).2]
  decide
 .rintro j U H hj ⟨y3,y4,y5,y6,ws,rfl,hl,hw,hs⟩;clear hs5;walk_at "gd";rename_i l4 H5 hs5 x H6 x0 x1 hs6;obtain⟨v,hv,hmem⟩:=ei (xs:=[v4 "look",v4 "shut",v4 "look",v4 "open"]) x0 (by simpa using x1);refine az (by grind) hv ?_;obtain⟨wd,rfl,hwd⟩:∃ wd,v=v4 wd/\sR wd=true:=by
   simp only[mo,not_mem_nil,or_false]at hmem;rcases hmem with rfl|rfl|rfl|rfl<;>exact⟨_,rfl,by decide⟩
  walk_at "gd";rename_i lo H7 lo0 lo1 hs7 d H8 d0 d1 hs8;have hs9:Sep (pt b (wl (ws.map v4))::hand h (m+1+3*((j+1:Nat):Int))::O) H8:=(aq (n:=m+1+3*((j+1:Nat):Int)) (hs8.pull (A:=hand h (m+1+3*(j:Int)+1+1+1)) (by symm)) nofun).sub (by ac_nf);clear hs hs5 hs6 hs7 hs8 hv hmem;refine jI (λi U H=>∃ y6,∃ ws:List Str,U=[some (ut h),some (v0 n),some (ut b),some (v0 (0+(j:Int))),some (v4 wd),some (v0 lo),y6]/\ws.length=n/\cI ws/\Sep (pt b (wl (ws.map v4))::hand h (m+1+3*((j+1:Nat):Int))::O) H) ?_ ?_ ?_
  .exact⟨_,ws,rfl,hl,hw,hs9⟩
  .rintro i U H hi ⟨y6,ws,rfl,hl,hw,hs⟩;right;refine fw hs (by ac_rfl) (dw nofun (by rw[ce];omega)) rfl (λH hs=>?_);right;rw[<-List.map_set]at hs;exact⟨_,_,rfl,by rw[length_set];exact hl,pv hw hwd,hs⟩
  .rintro U H ⟨y6,ws,rfl,hl,hw,hs⟩;right;exact⟨_,_,_,_,ws,rfl,hl,hw,hs⟩
 .rintro U H ⟨y3,y4,y5,y6,ws,rfl,hl,hw,hs⟩;right;exact q b ws H hl hw ((aq (n:=m+20) (hs.pull .k1) nofun).pull .k1)
def gb (h0:0<=r)(h1:r<xs.length)(h:∀ v ∈ xs,P v):∃ v,kO xs r=some v/\P v:=by
 obtain⟨v,hv,hm⟩:=ei h0 h1;exact⟨v,hv,h v hm⟩
abbrev inR (lo hi:Int)(v:V):Prop:=∃ i,v=v0 i/\lo<=i/\i<=hi
def inR.mk {lo hi:Int}(h0:lo<=i)(h1:i<=hi):inR lo hi (v0 i):=⟨i,rfl,h0,h1⟩
def JX {a b:V}(ha:P a)(hb:P b):∀ v ∈ [a,b],P v:=λv hv=>by
 simp only[mo,not_mem_nil,or_false]at hv;rcases hv with rfl|rfl<;>assumption
def II {a b c:V}(ha:P a)(hb:P b)(hc:P c):∀ v ∈ [a,b,c],P v:=λv hv=>by
 simp only[mo,not_mem_nil,or_false]at hv;rcases hv with rfl|rfl|rfl<;>assumption
def Lq {a b c d:V}(ha:P a)(hb:P b)(hc:P c)(hd:P d):∀ v ∈ [a,b,c,d],P v:=λv hv=>by
 simp only[mo,not_mem_nil,or_false]at hv;rcases hv with rfl|rfl|rfl|rfl<;>assumption
def xN {M:Int}(hk:2<=k)(s:Sep (hand h m::O) H)(hm:m<=1099510000000)(hM0:1<=M)(hM1:M<=60)(q:∀ i H',-1000000000<=i->i<=1000000000->Sep (hand h (m+6)::O) H'->Q (v0 i) H'):aa tab R k 91 [ut h,v0 M] H Q E:=by
 delta jf;walk_at "gd";rename_i wy H1 w0 w1 hs1;refine aD (λe=>?_) (λe=>?_)
 .walk_at "gd";rename_i r H2 r0 r1 hs2;exact q _ _ nofun nofun (aq hs2 nofun)
 walk_at "gd";refine aD (λe2=>?_) (λe2=>?_)
 .walk_at "gd";rename_i l H2 hs2;obtain⟨v,hv,i,rfl,i0,i1⟩:=gb (xs:=[v0 0,v0 (M-1)]) (P:=inR (-1000000000) 1000000000) (r:=wy-4) nofun (by simp;omega) (JX (.mk nofun nofun) (.mk nofun nofun));refine az (by grind) hv ?_;exact q _ _ i0 i1 (aq (hs2.sub (by ac_nf)) nofun)
 walk_at "gd";refine aN (λe3=>?_) (λe3=>?_)
 .walk_at "gd";rename_i a H2 a0 a1 hs2 b H3 b0 b1 hs3 l H4 hs4 c H5 c0 c1 hs5;obtain⟨v,hv,i,rfl,i0,i1⟩:=gb (xs:=[v0 (-1-a),v0 (M+b)]) (P:=inR (-1000000000) 1000000000) (r:=c) c0 (by simp;omega) (JX (.mk nofun nofun) (.mk nofun nofun));refine az (by grind) hv ?_;exact q _ _ i0 i1 (aq (hs5.sub (by ac_nf)) nofun)
 walk_at "gd";rename_i a H2 a0 a1 hs2 b H3 b0 b1 hs3 c H4 c0 c1 hs4 l H5 hs5 d H6 d0 d1 hs6;rw[dU]at hs6;obtain⟨v,hv,i,rfl,i0,i1⟩:=gb (xs:=[v0 (1000000000-a),v0 (b-1000000000),v0 c]) (P:=inR (-1000000000) 1000000000) (r:=d) d0 (by simp;omega) (II (.mk nofun nofun) (.mk nofun nofun) (.mk nofun nofun));refine az (by grind) hv ?_;exact q _ _ i0 i1 (aq (hs6.sub (by ac_nf)) nofun)
abbrev fv:Nat->lK->lK
 |0,b=>b
 |n+1,.cons _ r=>fv n r
 |_+1,.nil=>.nil
def qe {p:Addr}{lf wy:Int}{cs:List Int}{v5 v6 v7:Option V}(hk:3<=k)(s:Sep (hand h m::pt p (wl (cs.map v0))::O) H)(hm:m<=1099509500000)(h1:1<=cs.length)(h60:cs.length<=60)(hc:aR cs)(l0:0<=lf)(l1:lf<=1000000000)
  (q:∀ d x H',Bx.ok x->Sep (ay d x::hand h (m+20)::pt p (wl (cs.map v0))::O) H'->Q (ut d) H'):
  wB (fv 4 fK.body) ⟨tab,R,aa tab R (k-1),true⟩ { nx:=λ_ H'=>Q wf H',rt:=Q } (λ_=>E) [some (ut h),some (ut p),some (v0 cs.length),some (v0 wy),some (v0 lf),v5,v6,v7] H:=by
 walk_at "gd";rename_i r H1 r0 r1 hs1;refine az (by grind) (di r0 r1) ?_;walk_at "gd";refine l8 (m:=m+1) nofun hs1 nofun (λct H2 c0 c1 hs2=>?_);walk_at "gd";rename_i l2 H3 hs3 r3 H4 r30 r31 hs4;obtain⟨v,hv,sg,rfl,sg0,sg1⟩:=gb (xs:=[v0 (gt cs r),v0 ct]) (P:=inR 0 1000000000) (r:=r3 / 3) nofun (by simp;omega) (JX (.mk (dF hc).1 (dF hc).2) (.mk c0 c1));refine az (by grind) hv ?_;walk_at "gd";refine xN (m:=m+5) (O:=pt p (wl (cs.map v0))::O) nofun (aq (hs4.sub (by ac_nf)) nofun) nofun nofun nofun (λhh H5 hh0 hh1 hs5=>?_);walk_at "gd";refine xN (m:=m+11) nofun (aq hs5 nofun) nofun nofun nofun (λtt H6 tt0 tt1 hs6=>?_);walk_at "gd";rename_i w2 H7 w20 w21 hs7;intro d hd;have hs8:=hs7.new (o:=.dK []) hd;generalize upd H7 d (.dK [])=H8 at hs8⊢;walk_at "gd";rename_i mt H9 mt0 mt1 hs9;refine wF hs9 (by ac_rfl) (λH10 hs10=>?_);refine q d ⟨hh,tt,lf,1-2*w2,sg,mt⟩ H10 ?_ ((aq hs10 nofun).pull .k1);refine⟨⟨hh0,hh1⟩,⟨tt0,tt1⟩,⟨l0,l1⟩,?_,⟨sg0,sg1⟩,?_⟩<;>dsimp only<;>omega
def ET {p:Addr}{cs:List Int}(hk:3<=k)(s:Sep (hand h m::pt p (wl (cs.map v0))::O) H)(hm:m<=1099509000000)(h1:1<=cs.length)(h60:cs.length<=60)(hc:aR cs)
  (q:∀ d x H',Bx.ok x->Sep (ay d x::hand h (m+30)::pt p (wl (cs.map v0))::O) H'->Q (ut d) H'):aa tab R k 92 [ut h,ut p] H Q E:=by
 delta fK;right;rw[ce];walk_at "gd";rename_i wy H1 w0 w1 hs1 a H2 a0 a1 hs2 b H3 b0 b1 hs3 c H4 c0 c1 hs4 l1 H5 hs5;obtain⟨v,hv,lf,rfl,lf0,lf1⟩:=gb (xs:=[v0 a,v0 b,v0 (cs.length+c)]) (P:=inR 0 1000000000) (r:=wy % 3) nofun (by simp;omega) (II (.mk nofun nofun) (.mk nofun nofun) (.mk nofun nofun));refine az (by grind) hv ?_;have hs6:Sep (hand h (m+9)::pt p (wl (cs.map v0))::O) H5:=aq (hs5.sub (by ac_nf)) nofun;clear hs1 hs2 hs3 hs4 hs5 hv;left;refine tB rfl rfl ?_;left;refine aN (λe=>?_) (λe=>?_)
 .right;refine qZ nofun hs6 nofun nofun nofun (λr H7 r0 r1 hs7=>?_);rw[dU];exact qe (m:=m+10) hk (aq hs7 nofun) nofun h1 h60 hc nofun nofun (λd x H' hx hs=>q d x H' hx (by rw[show m+30=m+10+20 by omega];exact hs))
 .exact qe (m:=m+10) hk (aq hs6 nofun) nofun h1 h60 hc lf0 lf1 (λd x H' hx hs=>q d x H' hx (by rw[show m+30=m+10+20 by omega];exact hs))
abbrev Wd.cl:Wd->Nat
 | .copy=>20
 | .fill=>21
 | .seek=>22
 | .mtch=>23
 | .shift=>24
 | .turn=>25
def FO (wd:Wd)(hk:1<=k)(z:Sep O H)(q:∀ d H',Sep (dd R d wd.cl::O) H'->Q (ut d) H'):aa tab R k 95 [v4 wd.s] H Q E:=by
 delta jn;right;refine vp z (λa1 d1 H1 z1=>?_);right;refine vp z1 (λa2 d2 H2 z2=>?_);right;refine vp z2 (λa3 d3 H3 z3=>?_);right;refine vp z3 (λa4 d4 H4 z4=>?_);right;refine vp z4 (λa5 d5 H5 z5=>?_);right;refine vp z5 (λa6 d6 H6 z6=>?_);clear z z1 z2 z3 z4 z5;right;rename_i l1 H7 z7 l2 H8 z8;refine⟨l2,_,rfl,z8.at,?_⟩;left;have ex:∃ j:Nat,j<6/\([v4 "copy",v4 "fill",v4 "seek",v4 "match",v4 "shift",v4 "turn"]:List V)[j]? =some (v4 wd.s)/\(∀ m,m<j->cH (([v4 "copy",v4 "fill",v4 "seek",v4 "match",v4 "shift",v4 "turn"]:List V).getD m wf) (v4 wd.s)=false)/\∃ a d,([ut a1,ut a2,ut a3,ut a4,ut a5,ut a6]:List V)[j]? =some (ut a)/\Sep (pt a (wp (R.cad wd.cl) d [])::pt d (.own a)::O) H8:=by
  cases wd
  .exact⟨0,by decide,rfl,by decide+kernel,a1,d1,rfl,z8.sub (Γ':=pt a1 (wp (R.cad 20) d1 [])::pt d1 (.own a1)::O) (by ac_nf)⟩
  .exact⟨1,by decide,rfl,by decide+kernel,a2,d2,rfl,z8.sub (Γ':=pt a2 (wp (R.cad 21) d2 [])::pt d2 (.own a2)::O) (by ac_nf)⟩
  .exact⟨2,by decide,rfl,by decide+kernel,a3,d3,rfl,z8.sub (Γ':=pt a3 (wp (R.cad 22) d3 [])::pt d3 (.own a3)::O) (by ac_nf)⟩
  .exact⟨3,by decide,rfl,by decide+kernel,a4,d4,rfl,z8.sub (Γ':=pt a4 (wp (R.cad 23) d4 [])::pt d4 (.own a4)::O) (by ac_nf)⟩
  .exact⟨4,by decide,rfl,by decide+kernel,a5,d5,rfl,z8.sub (Γ':=pt a5 (wp (R.cad 24) d5 [])::pt d5 (.own a5)::O) (by ac_nf)⟩
  .exact⟨5,by decide,rfl,by decide+kernel,a6,d6,rfl,z8.sub (Γ':=pt a6 (wp (R.cad 25) d6 [])::pt d6 (.own a6)::O) (by ac_nf)⟩
 obtain⟨j,j6,hj,hm,a,d,ha,zd⟩:=ex;refine Kh (j:=j) (λx=>cH x (v4 wd.s)) z8.at (by decide) (λx hx=>⟨0,by decide,.flat ?_ rfl⟩) hj (eT rfl) (λm x h1 h2=>?_) ?_
 .simp only[mo,not_mem_nil,or_false]at hx;rcases hx with rfl|rfl|rfl|rfl|rfl|rfl<;>rfl
 .have:=hm m h1
  rwa [List.getD_eq_getElem?_getD,h2]at this
 .left;refine az (z8.get .k1) (aW (i:=(j:Int)) nofun (by rw[re];exact ha)) ?_;left;exact q a H8 (J8 zd)
def qg:(wg.zip (x.ls.map v0)).map (·.2)=x.ls.map v0:=rfl
def pY {tp:Bool}(s:Sep O H)(e:H d=some (.dK kvs))(h:∀ p H',H p=none->Sep (pt p (Er tp (kvs.map (·.2)))::O) H'->Q (ut p) H'):pW tp (ut d) H Q:=by unfold pW;exact⟨d,kvs,rfl,e,λp hp=>h p _ hp (s.new hp)⟩
inductive Bn where
 |h
 |t
 |l
 |w
 |s
 |m
abbrev Bn.j:Bn->Nat
 | .h=>0
 | .t=>1
 | .l=>2
 | .w=>3
 | .s=>4
 | .m=>5
abbrev Bn.nm:Bn->Str
 | .h=>"here"
 | .t=>"there"
 | .l=>"left"
 | .w=>"way"
 | .s=>"sign"
 | .m=>"met"
def Bn.at (b:Bn):ou[b.j]? =some b.nm:=by cases b<;>rfl
abbrev Bx.g (x:Bx):Bn->Int
 | .h=>x.h
 | .t=>x.t
 | .l=>x.l
 | .w=>x.w
 | .s=>x.s
 | .m=>x.m
abbrev Bx.p (x:Bx)(i:Int):Bn->Bx
 | .h=>⟨i,x.t,x.l,x.w,x.s,x.m⟩
 | .t=>⟨x.h,i,x.l,x.w,x.s,x.m⟩
 | .l=>⟨x.h,x.t,i,x.w,x.s,x.m⟩
 | .w=>⟨x.h,x.t,x.l,i,x.s,x.m⟩
 | .s=>⟨x.h,x.t,x.l,x.w,i,x.m⟩
 | .m=>⟨x.h,x.t,x.l,x.w,x.s,i⟩
def Bx.gl (x:Bx)(b:Bn):x.ls[b.j]? =some (x.g b):=by cases b<;>rfl
def Bx.pl (x:Bx)(i:Int)(b:Bn):x.ls.set b.j i=(x.p i b).ls:=by cases b<;>rfl
abbrev bc (b:Bn)(i:Int):Bool:=bw b.j (v0 i)
def yp {b:Bn}(h:bc b i=true)(o:x.ok):(x.p i b).ok:=by
 obtain⟨o1,o2,o3,o4,o5,o6⟩:=o;cases b
 .have h:(decide (-1000000000<=i)&&decide (i<=1000000000))=true:=h;have h: -1000000000<=i/\i<=1000000000:=by simpa using h
  exact⟨h,o2,o3,o4,o5,o6⟩
 .have h:(decide (-1000000000<=i)&&decide (i<=1000000000))=true:=h;have h: -1000000000<=i/\i<=1000000000:=by simpa using h
  exact⟨o1,h,o3,o4,o5,o6⟩
 .have h:(decide (0<=i)&&decide (i<=1000000000))=true:=h;have h:0<=i/\i<=1000000000:=by simpa using h
  exact⟨o1,o2,h,o4,o5,o6⟩
 .have h:(i ==1||i == -1)=true:=h;have h:i=1\/i= -1:=by simpa using h
  exact⟨o1,o2,o3,h,o5,o6⟩
 .have h:(decide (0<=i)&&decide (i<=1000000000))=true:=h;have h:0<=i/\i<=1000000000:=by simpa using h
  exact⟨o1,o2,o3,o4,h,o6⟩
 .have h:(i ==0||i ==1)=true:=h;have h:i=0\/i=1:=by simpa using h
  exact⟨o1,o2,o3,o4,o5,h⟩
def Cw (h0:0<=r)(h1:r<6):∃ b:Bn,kO [v4 "here",v4 "there",v4 "left",v4 "way",v4 "sign",v4 "met"] r=some (v4 b.nm):=by
 have:r=0\/r=1\/r=2\/r=3\/r=4\/r=5:=by omega
 rcases this with rfl|rfl|rfl|rfl|rfl|rfl
 .exact⟨.h,rfl⟩
 .exact⟨.t,rfl⟩
 .exact⟨.l,rfl⟩
 .exact⟨.w,rfl⟩
 .exact⟨.s,rfl⟩
 .exact⟨.m,rfl⟩
def JZ {b:Addr}{n:Bn}(ro:Ro K R)(hk:4<=k)(z:Sep (aM R b x::O) H)(q0:bc n i=true->∀ H',Sep (aM R b (x.p i n)::O) H'->Q wf H')
  (q1:bc n i=false->∀ e H',Sep (jE (R.cad 3) [("box",v4 n.nm),("number",v0 i)] e false::aM R b x::O) H'->E e H'):aa tab R k 14 [ut b,v4 n.nm,v0 i] H Q E:=by
 cases h:bc n i with
 |true=>exact qE ro hk z .e n.at h (x.pl i n) (yp h) (q0 h)
 |false=>
  obtain⟨o,z2⟩:=dM z;exact qX ro hk z2 n.at rfl h λe d H' z3=>q1 h e H' (jY (Sep.push .k2 (mK o (z3.pull .k2))))
def wL {b:Addr}{n:Bn}(ro:Ro K R)(hk:2<=k)(z:Sep O H)(p:ah (aM R b x) O Δ)(q:Q (v0 (x.g n)) H):aa tab R k 13 [ut b,v4 n.nm] H Q E:=dD ro hk (dM (z.pull p)).2 n.at (x.gl n) q
def lD {K:W.Frag}{n:Bn}(z:Sep O H)(p:ah (ay d x) O Δ)(q:Q (v0 (x.g n)) H):qK K (ut d) (v4 n.nm) H Q:=by
 refine qC (k:=.inr n.nm) (v:=v0 (x.g n)) (z.get p) ?_ q;cases n<;>rfl
def BF {n:Bn}{P:Hp->Prop}(z:Sep O H)(r:aK (ay d x) (ay d (x.p i n)) O Γ')(q:∀ H',Sep Γ' H'->P H'):gi (ut d) (v4 n.nm) (v0 i) H P:=pR z r n.at (x.pl i n) q
inductive Sp where
 |set (b:Bn) (i:Int)
 |add (b:Bn) (i:Int)
 |take (b c:Bn)
 |read (b:Bn)
 |write (b:Bn)
abbrev Sp.w:Sp->Str
 | .set _ _=>"set"
 | .add _ _=>"add"
 | .take _ _=>"take"
 | .read _=>"read"
 | .write _=>"write"
abbrev Sp.b:Sp->Bn
 | .set b _=>b
 | .add b _=>b
 | .take b _=>b
 | .read b=>b
 | .write b=>b
abbrev Sp.tl:Sp->List V
 | .set b i=>[v4 "set",v4 b.nm,v0 i]
 | .add b i=>[v4 "add",v4 b.nm,v0 i]
 | .take b c=>[v4 "take",v4 b.nm,v4 c.nm]
 | .read b=>[v4 "read",v4 b.nm]
 | .write b=>[v4 "write",v4 b.nm]
abbrev Sp.cl:Sp->Nat
 | .set _ _=>11
 | .add _ _=>12
 | .take _ _=>13
 | .read _=>14
 | .write _=>15
abbrev Sp.fs:Sp->List (Str×V)
 | .set b i=>[("box",v4 b.nm),("number",v0 i)]
 | .add b i=>[("box",v4 b.nm),("number",v0 i)]
 | .take b c=>[("box",v4 b.nm),("other",v4 c.nm)]
 | .read b=>[("box",v4 b.nm)]
 | .write b=>[("box",v4 b.nm)]
abbrev Sp.ok:Sp->Prop
 | .set _ i=>-1000000000<=i/\i<=1000000000
 | .add _ i=>-1000000000<=i/\i<=1000000000
 |_=>True
inductive vx where
 |on (x:Bx) (cs:List Int)
 |no (d:Str) (c:Int)
 |nf (b:Bn) (i:Int)
abbrev aX (x:Bx)(cs:List Int)(b:Bn)(i:Int):vx:=if bc b i=true then .on (x.p i b) cs else .nf b i
abbrev jB (x:Bx)(cs:List Int)(ws:List Str):Sp->vx
 | .set b i=>aX x cs b i
 | .add b i=>aX x cs b (x.g b+i)
 | .take b c=>aX x cs b (x.g c)
 | .read b=>if ai ws "look" x.h=true then aX x cs b (gt cs x.h) else .no "look" x.h
 | .write b=>if dP (v0 (x.g b))=true then(if ai ws "put" x.t=true then .on x (cs.set x.t.toNat (x.g b)) else .no "put" x.t) else .nf b (x.g b)
abbrev sd (R:Rt)(d:Addr)(sp:Sp):aw:=bx λdx:Addr=>[pt d (wp (R.cad sp.cl) dx sp.fs),pt dx (.own d)]
def xx (s:Sep (pt d (wp (R.cad sp.cl) dx sp.fs)::pt dx (.own d)::O) H):Sep (sd R d sp::O) H:=jr dx s
def ql (s:Sep O H)(p:ah (sd R d sp) O Δ):∃ dx,H d=some (wp (R.cad sp.cl) dx sp.fs):=by
 obtain⟨dx,s⟩:=ki (s.pull p);exact⟨dx,Sep.at s⟩
def GG:Ob R (sd R d sp) d sp.cl (sp.fs.map (·.1)):=by
 rintro H D ⟨dx,D1,D2,_,_,_,⟨_,h⟩,_⟩;exact⟨dx,_,h,rfl⟩
def bA {w:Str}{n:Bn}(ro:Ro K R)(hk:2<=k)(q:Q wf H):aa tab R k 26 [v4 w,v4 n.nm] H Q E:=by
 delta iW;right;refine nM (t:="str") ro nofun rfl ?_;rw[rQ n.at];right;exact q
def eu {w:Str}(ro:Ro K R)(hk:3<=k)(h0: -1000000000<=i)(h1:i<=1000000000)(q:Q wf H):aa tab R k 27 [v4 w,v0 i] H Q E:=by
 delta eC;right;refine eG (t:="int") ro nofun rfl ?_;rw[show eI (v0 i)=true by simp[eI,h0,h1]];right;exact q
def Hu {x:Addr}{n:Bn}(ro:Ro K R)(hk:4<=k)(h0: -1000000000<=i)(h1:i<=1000000000)(z:Sep (pt x (wp (R.cad 11) dx [])::pt dx (.own x)::O) H)(q:∀ H',Sep (sd R x (.set n i)::O) H'->Q wf H'):aa tab R k 28 [ut x,v4 n.nm,v0 i] H Q E:=by
 delta dZ;right;refine bA ro nofun ?_;right;refine eu ro nofun h0 h1 ?_;right;exact q _ (xx (by assumption))
def Gy {x:Addr}{n:Bn}(ro:Ro K R)(hk:4<=k)(h0: -1000000000<=i)(h1:i<=1000000000)(z:Sep (pt x (wp (R.cad 12) dx [])::pt dx (.own x)::O) H)(q:∀ H',Sep (sd R x (.add n i)::O) H'->Q wf H'):aa tab R k 31 [ut x,v4 n.nm,v0 i] H Q E:=by
 delta eX;right;refine bA ro nofun ?_;right;refine eu ro nofun h0 h1 ?_;right;exact q _ (xx (by assumption))
def GY {x:Addr}{n m:Bn}(ro:Ro K R)(hk:4<=k)(z:Sep (pt x (wp (R.cad 13) dx [])::pt dx (.own x)::O) H)(q:∀ H',Sep (sd R x (.take n m)::O) H'->Q wf H'):aa tab R k 34 [ut x,v4 n.nm,v4 m.nm] H Q E:=by
 delta dJ;right;refine bA ro nofun ?_;right;refine bA ro nofun ?_;right;exact q _ (xx (by assumption))
def Ij {x:Addr}{n:Bn}(ro:Ro K R)(hk:4<=k)(z:Sep (pt x (wp (R.cad 14) dx [])::pt dx (.own x)::O) H)(q:∀ H',Sep (sd R x (.read n)::O) H'->Q wf H'):aa tab R k 37 [ut x,v4 n.nm] H Q E:=by
 delta dH;right;refine bA ro nofun ?_;right;exact q _ (xx (by assumption))
def HK {x:Addr}{n:Bn}(ro:Ro K R)(hk:4<=k)(z:Sep (pt x (wp (R.cad 15) dx [])::pt dx (.own x)::O) H)(q:∀ H',Sep (sd R x (.write n)::O) H'->Q wf H'):aa tab R k 40 [ut x,v4 n.nm] H Q E:=by
 delta cW;right;refine bA ro nofun ?_;right;exact q _ (xx (by assumption))
abbrev jV:V->Bool
 | v0 i=>decide (0<=i)&&decide (i<=24)
 |_=>false
abbrev F9:V->Bool
 | wf=>true
 | v0 i=>i ==0||i ==1
 |_=>false
def vU (ro:Ro K R)(hk:2<=k)(ht:tyName v H=some t)(q:Q (.bl (jV v)) H):aa tab R k 63 [v] H Q E:=by
 delta lV;right;refine a9 nofun ht ?_;cases iV ht
 case int i=>
  right;refine aD (λh0=>?_) (λh0=>?_)
  .left;simp only[ro.g_MOST_HOPPED];right;rw[show jV (v0 i)=decide (i<=24) by simp[jV,h0]]at q;exact q
  .right;rw[show jV (v0 i)=false by simp[jV,h0]]at q;exact q
 all_goals
  right;exact q
def BZ (hk:2<=k)(ht:tyName v H=some t)(q:Q (.bl (F9 v)) H):aa tab R k 64 [v] H Q E:=by
 delta uo;right;refine g8 ?_;cases iV ht
 case int i=>
  left;refine ar rfl ?_;right;refine a9 (t:="int") nofun rfl ?_;right;refine aN (λh0=>?_) (λh0=>?_)
  .right;rw[show F9 (v0 i)=true by simp[F9,h0]]at q;exact q
  .right;rw[show F9 (v0 i)=(i ==1) by simp[F9,h0]]at q;exact q
 case non=>
  left;refine aG rfl ?_;exact q
 all_goals
  left;refine ar rfl ?_;right;refine a9 nofun ht ?_;right;exact q
abbrev oV:Option Int->V
 |none=>wf
 |some i=>v0 i
abbrev JH:Option Int->Prop
 |none=>True
 |some i=>i=0\/i=1
abbrev F8 (R:Rt)(d:Addr)(n:Int)(o:Option Int):aw:=bx λdx:Addr=>[pt d (wp (R.cad 19) dx [("many",v0 n),("on",oV o)]),pt dx (.own d)]
def Jg {n:Int}(s:Sep (pt d (wp (R.cad 19) dx [("many",v0 n),("on",oV o)])::pt dx (.own d)::O) H):Sep (F8 R d n o::O) H:=jr dx s
def HU {n:Int}(s:Sep O H)(p:ah (F8 R d n o) O Δ):∃ dx,H d=some (wp (R.cad 19) dx [("many",v0 n),("on",oV o)]):=by
 obtain⟨dx,s⟩:=ki (s.pull p);exact⟨dx,Sep.at s⟩
def GP {n:Int}:Ob R (F8 R d n o) d 19 ["many","on"]:=by
 rintro H D ⟨dx,D1,D2,_,_,_,⟨_,h⟩,_⟩;exact⟨dx,_,h,rfl⟩
def IK {x:Addr}{n:Int}(ro:Ro K R)(hk:4<=k)(h0:0<=n)(h1:n<=24)(ho:JH o)(z:Sep (pt x (wp (R.cad 19) dx [])::pt dx (.own x)::O) H)(q:∀ H',Sep (F8 R x n o::O) H'->Q wf H'):aa tab R k 65 [ut x,v0 n,oV o] H Q E:=by
 delta eJ;right;refine vU (t:="int") ro nofun rfl ?_;rw[show jV (v0 n)=true by simp[jV,h0,h1]];right;obtain⟨t,ht⟩:∃ t,tyName (oV o) H=some t:=by cases o<;>exact⟨_,rfl⟩
 refine BZ nofun ht ?_;rw[show F9 (oV o)=true by cases o with|none=>rfl|some i=>rcases ho with rfl|rfl<;>rfl];right;exact q _ (Jg (by assumption))
abbrev GS (n:Int)(o:Option Int)(m:Int):Int:=match o with
 |none=>1+n
 |some i=>if i=m then 1+n else 1
def BV {b:Addr}{n:Int}(ro:Ro K R)(hk:3<=k)(z:Sep O H)(p1:ah (F8 R d n o) O Δ){Δ':List aw}(p2:ah (aM R b x) O Δ')(q:Q (v0 (GS n o x.m)) H):aa tab R k 66 [ut d,ut b,v] H Q E:=by
 delta kU;obtain⟨dx,e⟩:=HU z p1;right;refine bV e rfl rfl rfl ?_;right;refine g8 ?_;cases o with
 |none=>
  left;refine aG rfl ?_;right;refine bV e rfl rfl rfl ?_;right;exact q
 |some i=>
  left;refine ar rfl ?_;right;refine bV e rfl rfl rfl ?_;right;refine ag bb z p2 rfl rfl ?_;left;refine a8 (vs':=[_,_]) rfl ?_;obtain⟨h,t,l,w,s,m⟩:=x;refine Ie ro nofun z p2 ?_;right;have q:Q (v0 (if i=m then 1+n else 1)) H:=q;refine aN (λh0=>?_) (λh0=>?_)
  .rw[if_pos h0]at q;right;refine bV e rfl rfl rfl ?_;right;exact q
  .rw[if_neg h0]at q;right;exact q
def jQ {n:Bn}(hk:1<=k)(q:Q (.bl (bc n i)) H):aa tab R k 98 [v4 n.nm,v0 i] H Q E:=by
 delta jl;cases n
 all_goals right
 all_goals repeat walk_at "sc"
 .rw[dU];refine aD (λh0=>?_) (λh0=>?_)
  .right;rw[dU];rw[show bc .h i=decide (i<=1000000000) by simp[bc,Bn.j,bw,eI,h0]]at q;exact q
  .right;rw[show bc .h i=false by simp[bc,Bn.j,bw,eI,h0]]at q;exact q
 .rw[dU];refine aD (λh0=>?_) (λh0=>?_)
  .right;rw[dU];rw[show bc .t i=decide (i<=1000000000) by simp[bc,Bn.j,bw,eI,h0]]at q;exact q
  .right;rw[show bc .t i=false by simp[bc,Bn.j,bw,eI,h0]]at q;exact q
 .refine aD (λh0=>?_) (λh0=>?_)
  .right;rw[dU];rw[show bc .l i=decide (i<=1000000000) by simp[bc,Bn.j,bw,dP,h0]]at q;exact q
  .right;rw[show bc .l i=false by simp[bc,Bn.j,bw,dP,h0]]at q;exact q
 .refine aN (λh0=>?_) (λh0=>?_)
  .right;rw[show bc .w i=true by simp[bc,Bn.j,bw,lp,h0]]at q;exact q
  .right;rw[show bc .w i=(i == -1) by simp[bc,Bn.j,bw,lp,h0]]at q;exact q
 .refine aD (λh0=>?_) (λh0=>?_)
  .right;rw[dU];rw[show bc .s i=decide (i<=1000000000) by simp[bc,Bn.j,bw,dP,h0]]at q;exact q
  .right;rw[show bc .s i=false by simp[bc,Bn.j,bw,dP,h0]]at q;exact q
 .refine aN (λh0=>?_) (λh0=>?_)
  .right;rw[show bc .m i=true by simp[bc,Bn.j,bw,lp,h0]]at q;exact q
  .right;rw[show bc .m i=(i ==1) by simp[bc,Bn.j,bw,lp,h0]]at q;exact q
inductive Rw where
 |lg (w:Wd)
 |sp (s:Sp)
 |hop (n:Int) (o:Option Int)
abbrev Rw.tl:Rw->List V
 | .lg w=>[v4 w.s]
 | .sp s=>s.tl
 | .hop n o=>[v4 "hop",v0 n,oV o]
abbrev Rw.ok:Rw->Prop
 | .lg _=>True
 | .sp s=>s.ok
 | .hop n o=>(0<=n/\n<=24)/\JH o
abbrev Rw.cl:Rw->Nat
 | .lg w=>w.cl
 | .sp s=>s.cl
 | .hop _ _=>19
abbrev mh (R:Rt)(d:Addr):Rw->aw
 | .lg w=>dd R d w.cl
 | .sp s=>sd R d s
 | .hop n o=>F8 R d n o
abbrev Rw.fs:Rw->List Str
 | .lg _=>[]
 | .sp s=>s.fs.map (·.1)
 | .hop _ _=>["many","on"]
def CH (r:Rw):Ob R (mh R d r) d r.cl r.fs:=by
 cases r with
 |lg w=>exact GN
 |sp s=>exact GG
 |hop n o=>exact GP
def Ga {r:Rw}(z:Sep O H)(p:ah (mh R d r) O Δ):∃ dx fs,H d=some (wp (R.cad r.cl) dx fs):=by
 obtain⟨D,k,D1,D2,s1,s2,dj,h1,h2⟩:=z.pull p;obtain⟨dx,fs,e,_⟩:=CH r H D1 h1;exact⟨dx,fs,e⟩
inductive iu where
 |on (r:Int) (x:Bx) (cs:List Int)
 |no (d:Str) (c:Int)
 |nf (b:Bn) (i:Int)
abbrev ofM:Out->iu
 | .on r x cs=>.on r x cs
 | .no d c=>.no d c
abbrev gh:vx->iu
 | .on x cs=>.on 1 x cs
 | .no d c=>.no d c
 | .nf b i=>.nf b i
abbrev cu (x:Bx)(cs:List Int)(ws:List Str):Rw->iu
 | .lg w=>ofM (bK w x cs ws)
 | .sp s=>gh (jB x cs ws s)
 | .hop n o=>.on (GS n o x.m) x cs
def vV {cs:List Int}(ro:Ro K R)(hk:5<=k)(z:Sep O H)(p:ah (cP R a cs ws) O Δ)(q:∀ c H',Sep (cP R c cs ws::O) H'->Q (ut c) H'):aa tab R k 25 [ut a] H Q E:=by
 delta fe;have ok:=rN z p;right;rename_i l H1 z1;intro c dx g1 g2 g3;refine uy (cs:=[0]) ro nofun (by decide) (by decide) (λi hi=>by rw[mem_singleton.mp hi];decide) (hU z1 g1 g2 g3) .e (λH2 z2=>⟨rfl,?_⟩);obtain⟨_,z3⟩:=jX z2;obtain⟨dx1,c1,d1,z4⟩:=bW z3;obtain⟨_,z5⟩:=jX (z4.pull (.j2 (.j2 (.t p))));obtain⟨dx2,c2,d2,z6⟩:=bW z5;clear z1 z2 z3 z4 z5;right;rename_i l3 H3 z7 H4 z8 l5 H5 z9 H6 z10;refine q c H6 ?_;have z11:Sep (pt c (wp (R.cad 9) dx1 [("contents",ut l3),("permits",ut l5)])::pt dx1 (.own c)::pt l3 (wl (cs.map v0))::pt l5 (wl (ws.map v4))::pt a (wp (R.cad 9) dx2 [("contents",ut c2),("permits",ut d2)])::pt dx2 (.own a)::pt c2 (wl (cs.map v0))::pt d2 (wl (ws.map v4))::Δ) H6:=z10.sub (by ac_nf);have z12:=kY ok (eP z11);have z13:Sep (pt a (wp (R.cad 9) dx2 [("contents",ut c2),("permits",ut d2)])::pt dx2 (.own a)::pt c2 (wl (cs.map v0))::pt d2 (wl (ws.map v4))::cP R c cs ws::Δ) H6:=z12.sub (by ac_nf);exact Sep.push (.t p) (kY ok (eP z13))
def uP {b:Addr}(ro:Ro K R)(hk:5<=k)(z:Sep O H)(p:ah (aM R b x) O Δ)(q:∀ c H',Sep (aM R c x::O) H'->Q (ut c) H'):aa tab R k 16 [ut b] H Q E:=by
 obtain⟨o,z2⟩:=dM (z.pull p);refine vI ro hk z2 (λc H' z3=>q c H' ?_);have z4:=mK o z3;have z5:=mK o (z4.pull .k1);exact Sep.push (.t p) z5
abbrev Be (R:Rt)(O:List aw)(ds:List V):Prop:=∀ v ∈ ds,∃ a r Δ,v=ut a/\ah (mh R a r) O Δ
def ue (r:Rw):tab.oc.contains r.cl=true/\tab.sub.lookup (r.cl,10)=some true:=by
 cases r with
 |lg w=>cases w<;>exact⟨rfl,rfl⟩
 |sp s=>cases s<;>exact⟨rfl,rfl⟩
 |hop n o=>exact⟨rfl,rfl⟩
def n9 {l:Addr}(ro:Ro K R)(hk:1<=k)(h0:1<=ds.length)(h1:ds.length<=24)(z:Sep O H)(p:ah (pt l (wl ds)) O Δ)(hd:Be R O ds)(q:∀ H',Sep O H'->Q wf H'):aa tab R k 43 [ut l] H Q E:=by
 delta gp;left;refine j5 (t:="list") (Gg (z.get p)) rfl ?_;right;refine jJ (z.get p) ?_;right;refine aD (λh=>?_) (λh=>absurd nofun h);left;simp only[ro.g_MOST_ROWS];right;refine aD (λh=>?_) (λh=>absurd nofun h);right;refine HR (z.get p) ?_;refine uG (xs:=ds) (λj U H=>∃ u v,U=[some (ut l),u,v]/\Sep O H) ?_ ?_ ?_ ?_
 .exact⟨none,none,rfl,z⟩
 .rintro j U H ⟨u,v,rfl,hs⟩;exact hs.get p
 .rintro j x T U H hx ⟨u,v,rfl,hs⟩ hT;obtain⟨a,r,Δ',rfl,hp⟩:=hd x (cr hx);have hs4:=hs.mR (xs:=[v0 j,ut a]) hT;obtain⟨dx,fs,e⟩:=Ga hs4 (.t hp);left;refine⟨T,_,rfl,.inl (bg.of hs4.atT),rfl,?_⟩;generalize upd H T _=H4 at hs4 e⊢;right;refine Il e (ue r).1 (b:=true) (ue r).2 ?_;right;exact⟨_,_,rfl,hs4.drop⟩
 .rintro U H ⟨u,v,rfl,hs⟩;exact q _ hs
def lA {n:Int}(hk:2<=k)(h0:0<=at_)(h1:at_<=n)(q:Q wf H):aa tab R k 44 [v0 at_,v0 n] H Q E:=by
 delta fz;right;refine a9 (t:="int") nofun rfl ?_;right;refine aD (λh=>?_) (λh=>absurd h0 h);right;refine aD (λh=>?_) (λh=>absurd h1 h);right;exact q
abbrev iu.bx (x:Bx):iu->Bx
 | .on _ x' _=>x'
 |_=>x
abbrev iu.cs (cs:List Int):iu->List Int
 | .on _ _ cs'=>cs'
 |_=>cs
abbrev K6 (t:Addr):iu->aw
 | .on r _ _=>tu t [v0 r,wf]
 | .no d c=>bx λte:Addr=>[tu t [wf,ut te],tu te [v4 d,v0 c]]
 | .nf b _=>bx λte:Addr=>[tu t [wf,ut te],tu te [v4 "fit",v4 b.nm]]
abbrev c9 (R:Rt)(O:List aw)(ds:List V)(rs:List Rw):Prop:=ds.length=rs.length/\∀ (i:Nat) (r:Rw),rs[i]? =some r->∃ a Δ,ds[i]? =some (ut a)/\ah (mh R a r) O Δ
variable {rs:List Rw}
def c9.more (h:c9 R O ds rs):c9 R (A::O) ds rs:=⟨h.1,λi r e=>by
 obtain⟨a,Δ,e2,p⟩:=h.2 i r e;exact⟨a,_,e2,.t p⟩⟩
def c9.all (h:c9 R O ds rs):Be R O ds:=λv hv=>by
 obtain⟨i,hi⟩:=List.getElem?_of_mem hv;have hl:=(sw.mp hi).1;obtain⟨a,Δ,e2,p⟩:=h.2 i _ (li (by rw[<-h.1];exact hl));rw[hi]at e2;cases e2;exact⟨a,_,Δ,rfl,p⟩
structure JR where
 w:Str
 at_:Int
 x:Bx
 cs:List Int
abbrev mS (rs:List Rw)(at_:Int)(x:Bx)(cs:List Int)(ws:List Str):JR:=match rs[at_.toNat]? with
 |none=>⟨"end",at_,x,cs⟩
 |some r=>match cu x cs ws r with
  | .on n x' cs'=>⟨"on",min (at_+n) rs.length,x',cs'⟩
  |_=>⟨"stop",at_,x,cs⟩
section
variable {m l s b:Addr}{at_:Int}{ds:List V}{rs:List Rw}{x:Bx}{cs:List Int}{ws:List Str}
end
def Gj:fin l=0\/fin l=1:=by
 unfold fin
 split
 .exact .inr rfl
 .exact .inl rfl
abbrev idx (wd:Wd)(x:Bx):Int:=match wd with
 | .fill=>x.t
 | .shift=>if x.t<=x.h then x.h else x.h+x.l-1
 |_=>x.h
abbrev dir (wd:Wd)(x:Bx):Int:=match wd with
 | .shift=>if x.t<=x.h then 1 else -1
 | .turn=>1
 |_=>x.w
abbrev gone (n:Nat)(w h h':Int):Prop:=h'=h\/(0<=h/\h<n)/\(h'=h+w\/h'=h+1)
def iD {d:Str}{w h:Int}(m:ai ws d h=true):gone ws.length w h (h+w):=.inr ⟨ao m,.inl rfl⟩
def sN {d:Str}{w h:Int}(m:ai ws d h=true):gone ws.length w h (h+1):=.inr ⟨ao m,.inr rfl⟩
abbrev x6 (x x':Bx)(n:Nat):Prop:=x'.w=x.w/\(0<=x.l->0<=x'.l)/\(x.ok->n<=60->x'.ok)
def bZ {h' t' l' m':Int}(hh:gone n x.w x.h h')(ht:gone n x.w x.t t')(hl:0<=x.l->0<=l'/\l'<=x.l)(hm:m'=x.m\/m'=0\/m'=1):x6 x ⟨h',t',l',x.w,x.s,m'⟩ n:=by
 refine⟨rfl,λz=>(hl z).1,λok hn=>?_⟩;obtain⟨o1,o2,o3,o4,o5,o6⟩:=ok;have b:=hl o3.1;have gg:∀ {h h':Int},gone n x.w h h'-> -1000000000<=h/\h<=1000000000-> -1000000000<=h'/\h'<=1000000000:=λ{h h'} g o=>by
  rcases g with rfl|⟨g,e⟩
  .exact o
  .omega
 exact⟨gg hh o1,gg ht o2,⟨b.1,Int.le_trans b.2 o3.2⟩,o4,o5,hm.elim (λe=>o6.imp (e.trans ·) (e.trans ·)) id⟩
def aj {P:Out->Prop}{c:Prop} [Decidable c] {a b:Out}(h:c->P a)(g:¬ c->P b):P (if c then a else b):=by
 by_cases e:c
 .rw[if_pos e];exact h e
 .rw[if_neg e];exact g e
def F5 (e:¬ l=0)(z:0<=l):0<=l+ -1/\l+ -1<=l:=by omega
section
variable {P:Out->Prop}{wd:Wd}{x:Bx}{cs:List Int}{ws:List Str}
def gO {j:Int}{f:List Int->Out}(no:∀ (d:Str) (c:Int),d="look"\/d="put"->P (.no d c)) (h:ai ws "look" i=true->ai ws "put" j=true->P (f (cs.set j.toNat (gt cs i)))):P (hm cs ws i j f):=
 aj (λa=>aj (h a) (λ_=>no _ _ (.inr rfl))) (λ_=>no _ _ (.inl rfl))
def yU (done:∀ x',x6 x x' ws.length->P (.on 1 x' cs)) (no:∀ (d:Str) (c:Int),d="look"\/d="put"->P (.no d c))
  (go:∀ x' cs',x6 x x' ws.length->cs'.length=cs.length->(0<=idx wd x/\idx wd x<ws.length)/\idx wd x'=idx wd x+dir wd x/\dir wd x'=dir wd x->P (.on (fin x'.l) x' cs')):P (bK wd x cs ws):=by
 have sm:∀ {m':Int},m'=x.m\/m'=0\/m'=1->x6 x ⟨x.h,x.t,x.l,x.w,x.s,m'⟩ ws.length:=λe=>bZ (.inl rfl) (.inl rfl) (λz=>⟨z,Int.le_refl _⟩) e
 have lk:∀ {c},P (.no "look" c):=no _ _ (.inl rfl);have pu:∀ {c},P (.no "put" c):=no _ _ (.inr rfl);cases wd
 .exact aj (λ_=>done _ (sm (.inl rfl))) λe=>gO no λa b=>go _ _ (bZ (iD a) (iD b) (F5 e) (.inl rfl)) (length_set ..) ⟨ao a,rfl,rfl⟩
 .exact aj (λ_=>done _ (sm (.inl rfl))) λe=>aj (λb=>go _ _ (bZ (.inl rfl) (iD b) (F5 e) (.inl rfl)) (length_set ..) ⟨ao b,rfl,rfl⟩) λ_=>pu
 .exact aj (λ_=>done _ (sm (.inr (.inl rfl)))) λe=>aj (λa=>aj (λ_=>done _ (sm (.inr (.inr rfl)))) λ_=>go _ _ (bZ (iD a) (.inl rfl) (F5 e) (.inr (.inl rfl))) rfl ⟨ao a,rfl,rfl⟩) λ_=>lk
 .exact aj (λ_=>done _ (sm (.inr (.inr rfl)))) λe=>aj (λa=>aj (λb=>aj (λ_=>go _ _ (bZ (iD a) (iD b) (F5 e) (.inr (.inr rfl))) rfl ⟨ao a,rfl,rfl⟩) λ_=>done _ (sm (.inr (.inl rfl)))) λ_=>lk) λ_=>lk
 .refine aj (λ_=>done _ (sm (.inl rfl))) λe=>aj (λc=>gO no λa b=>go _ _ (bZ (sN a) (sN b) (F5 e) (.inl rfl)) (length_set ..) ?_) λc=>gO no λa b=>go _ _ (bZ (.inl rfl) (.inl rfl) (F5 e) (.inl rfl)) (length_set ..) ?_
  .have g:=ao a;unfold idx dir;dsimp only;rw[if_pos c,if_pos c,if_pos nofun,if_pos nofun];exact⟨g,rfl,rfl⟩
  .have g:=ao a;unfold idx dir;dsimp only;rw[if_neg c,if_neg c];exact⟨g,by omega,rfl⟩
 .exact aj (λ_=>done _ (sm (.inl rfl))) λe=>aj (λc=>done _ (bZ (.inl rfl) (.inl rfl) (λz=>⟨Int.le_refl _,z⟩) (.inl rfl))) λc=>
   aj (λa=>aj (λ_=>aj (λ_=>aj (λ_=>go _ _ (bZ (sN a) (.inl rfl) (λz=>by omega) (.inl rfl)) ((length_set ..).trans (length_set ..)) ⟨ao a,rfl,rfl⟩) λ_=>pu) λ_=>pu) λ_=>lk) λ_=>lk
end
variable {x':Bx}
def oq {cs:List Int}(h:bK wd x cs ws=.on r x' cs'):
  x6 x x' ws.length/\cs'.length=cs.length/\(r=0\/r=1)/\(r=0->(0<=idx wd x/\idx wd x<ws.length)/\idx wd x'=idx wd x+dir wd x/\dir wd x'=dir wd x):=by
 revert h
 refine yU (P:=λo=>o=.on r x' cs'->_) (λy w e=>?_) (λ_ _ _ e=>by cases e) (λy c w l g e=>?_)
 .cases e;exact⟨w,rfl,.inr rfl,λz=>by cases z⟩
 .cases e;exact⟨w,l,Gj,λ_=>g⟩
def Ft {cs:List Int}(h:bK wd x cs ws=.on r x' cs'):
  (r=0\/r=1)/\x'.w=x.w/\(r=0->0<=idx wd x/\idx wd x<ws.length/\idx wd x'=idx wd x+dir wd x/\dir wd x'=dir wd x):=
 have ⟨w,_,r,g⟩:=oq h
 ⟨r,w.1,λz=>⟨(g z).1.1,(g z).1.2,(g z).2⟩⟩
def B2 {cs:List Int}{r:Rw}{n:Int}(ok:r.ok)(h:cu x cs ws r=.on n x' cs'):0<=n:=by
 cases r with
 |lg w=>
  have h:ofM (bK w x cs ws)=.on n x' cs':=h;cases e:bK w x cs ws with
  |no d c=>rw[e]at h;cases h
  |on r y ys=>
   rw[e]at h;cases h;rcases(Ft e).1 with rfl|rfl<;>decide
 |hop m o=>
  cases h;have:=ok.1;cases o with
  |none=>show 0<=1+m;omega
  |some i=>
   show 0<=(if i=x.m then 1+m else 1)
   split<;>omega
 |sp s=>
  have h:gh (jB x cs ws s)=.on n x' cs':=h;cases e:jB x cs ws s with
  |on y ys=>rw[e]at h;cases h;decide
  |no d c=>rw[e]at h;cases h
  |nf b i=>rw[e]at h;cases h
def CD {cs:List Int}(h0:0<=at_)(h1:at_<=rs.length)(hn:∀ r ∈ rs,Rw.ok r):0<=(mS rs at_ x cs ws).at_/\(mS rs at_ x cs ws).at_<=rs.length/\((mS rs at_ x cs ws).w="on"\/((mS rs at_ x cs ws).w="end"\/(mS rs at_ x cs ws).w="stop")/\(mS rs at_ x cs ws).at_=at_/\(mS rs at_ x cs ws).x=x/\(mS rs at_ x cs ws).cs=cs):=by
 unfold mS;cases e:rs[at_.toNat]? with
 |none=>exact⟨h0,h1,.inr ⟨.inl rfl,rfl,rfl,rfl⟩⟩
 |some r=>
  have ok:=hn r (cr e);dsimp only;cases ho:cu x cs ws r with
  |no d c=>exact⟨h0,h1,.inr ⟨.inr rfl,rfl,rfl,rfl⟩⟩
  |nf b i=>exact⟨h0,h1,.inr ⟨.inr rfl,rfl,rfl,rfl⟩⟩
  |on n x' cs'=>
   have hn0:0<=n:=B2 ok ho;refine⟨?_,?_,.inl rfl⟩
   .show 0<=min (at_+n) (rs.length:Int)
    omega
   .show min (at_+n) (rs.length:Int)<=rs.length
    omega
def yH {cs:List Int}(hx:0<=x.l)(h:bK wd x cs ws=.on r x' cs'):0<=x'.l/\cs'.length=cs.length:=
 ⟨(oq h).1.2.1 hx,(oq h).2.1⟩
def Ge (h0:0<=r)(h1:r<6):∃ wd:Wd,kO [v4 "copy",v4 "fill",v4 "seek",v4 "match",v4 "shift",v4 "turn"] r=some (v4 wd.s):=by
 have:r=0\/r=1\/r=2\/r=3\/r=4\/r=5:=by omega
 rcases this with rfl|rfl|rfl|rfl|rfl|rfl
 .exact⟨.copy,rfl⟩
 .exact⟨.fill,rfl⟩
 .exact⟨.seek,rfl⟩
 .exact⟨.mtch,rfl⟩
 .exact⟨.shift,rfl⟩
 .exact⟨.turn,rfl⟩
def Fz (h0:0<=r)(h1:r<3):∃ o:Option Int,kO [wf,v0 0,v0 1] r=some (oV o)/\JH o:=by
 rcases(by omega:r=0\/r=1\/r=2) with rfl|rfl|rfl
 .exact⟨none,rfl,True.intro⟩
 .exact⟨some 0,rfl,.inl rfl⟩
 .exact⟨some 1,rfl,.inr rfl⟩
abbrev uh (v:V):Prop:=∃ b:Bn,v=v4 b.nm
def Ax {sz:Int}(hk:2<=k)(s:Sep (hand h m::O) H)(hm:m<=1099510000000)(h0:0<=sz)(h1:sz<=60)(q:∀ t r H',Rw.ok r->Sep (tu t r.tl::hand h (m+10)::O) H'->Q (ut t) H'):aa tab R k 93 [ut h,v0 sz] H Q E:=by
 delta iI;walk_at "gd";rename_i wy H1 wy0 wy1 hs1 p1 H2 hs2 r2 H3 r20 r21 hs3;obtain⟨b,e2⟩:=Cw r20 r21;refine az (by grind) e2 ?_;clear s hs1 hs2;right;refine aD (λg0=>?_) (λg0=>?_)
 .right;rename_i l4 H4 hs4;obtain⟨wd,e3⟩:=Ge wy0 g0;refine az (by grind) e3 ?_;right;rename_i t H5 hs5;have z6:Sep (tu t (Rw.tl (.lg wd))::_) _:=hs5.toT;exact q t (.lg wd) _ True.intro ((aq (n:=m+10) (z6.pull (A:=hand h _) (by symm)) nofun).sub (by ac_nf))
 right;refine aD (λg1=>?_) (λg1=>?_)
 .walk_at "gd";rename_i l4 H4 hs4 r5 H5 r50 r51 hs5;obtain⟨v,e3,b3,rfl⟩:=gb (P:=uh) (xs:=[v4 "here",v4 "there",v4 "left",v4 b.nm]) (r:=r5) r50 (by simpa using r51) (Lq ⟨.h,rfl⟩ ⟨.t,rfl⟩ ⟨.l,rfl⟩ ⟨b,rfl⟩);refine az (by grind) e3 ?_;walk_at "gd";rename_i r6 H6 r60 r61 hs6 r7 H7 r70 r71 hs7 r8 H8 r80 r81 hs8 r9 H9 r90 r91 hs9 l10 H10 hs10;obtain⟨v,e4,i,rfl,i0,i1⟩:=gb (xs:=[v0 r7,v0 (r8-2),v0 (10 ^ Int.toNat 9-r9)]) (P:=inR (-1000000000) 1000000000) (r:=r6 / 3) nofun (by simp;omega) (II (.mk nofun nofun) (.mk nofun nofun) (.mk (by rw[dU];omega) (by rw[dU];omega)));refine az (by grind) e4 ?_;right;rename_i t H11 hs11;have z6:Sep (tu t (Rw.tl (.sp (.set b3 i)))::_) _:=hs11.toT;exact q t (.sp (.set b3 i)) _ ⟨i0,i1⟩ ((aq (n:=m+10) (z6.pull (A:=hand h _) (by symm)) nofun).sub (by ac_nf))
 right;refine aN (λg2=>?_) (λg2=>?_)
 .walk_at "gd";rename_i r6 H6 r60 r61 hs6 r7 H7 r70 r71 hs7 r8 H8 r80 r81 hs8 l10 H10 hs10;obtain⟨v,e4,i,rfl,i0,i1⟩:=gb (xs:=[v0 (r7-3),v0 r8,v0 (-(10 ^ Int.toNat 9))]) (P:=inR (-1000000000) 1000000000) (r:=r6 / 3) nofun (by simp;omega) (II (.mk nofun nofun) (.mk nofun nofun) (.mk (by rw[dU];omega) (by rw[dU];omega)));refine az (by grind) e4 ?_;right;rename_i t H11 hs11;have z6:Sep (tu t (Rw.tl (.sp (.add b i)))::_) _:=hs11.toT;exact q t (.sp (.add b i)) _ ⟨i0,i1⟩ ((aq (n:=m+10) (z6.pull (A:=hand h _) (by symm)) nofun).sub (by ac_nf))
 right;refine aN (λg3=>?_) (λg3=>?_)
 .walk_at "gd";rename_i r6 H6 r60 r61 hs6;obtain⟨c,e3⟩:=Cw r60 r61;refine az (by grind) e3 ?_;right;rename_i t H11 hs11;have z6:Sep (tu t (Rw.tl (.sp (.take b c)))::_) _:=hs11.toT;exact q t (.sp (.take b c)) _ True.intro ((aq (n:=m+10) (z6.pull (A:=hand h _) (by symm)) nofun).sub (by ac_nf))
 right;refine aD (λg4=>?_) (λg4=>?_)
 .right;rename_i l4 H4 hs4;rcases(by omega:wy=11\/wy=12) with rfl|rfl
  .right;rename_i t H11 hs11;have z6:Sep (tu t (Rw.tl (.sp (.read b)))::_) _:=hs11.toT;exact q t (.sp (.read b)) _ True.intro ((aq (n:=m+10) (z6.pull (A:=hand h _) (by symm)) nofun).sub (by ac_nf))
  .right;rename_i t H11 hs11;have z6:Sep (tu t (Rw.tl (.sp (.write b)))::_) _:=hs11.toT;exact q t (.sp (.write b)) _ True.intro ((aq (n:=m+10) (z6.pull (A:=hand h _) (by symm)) nofun).sub (by ac_nf))
 walk_at "gd";rename_i r6 H6 r60 r61 hs6 l7 H7 hs7 r8 H8 r80 r81 hs8;obtain⟨o,e3,ho⟩:=Fz r80 r81;refine az (by grind) e3 ?_;right;rename_i t H11 hs11;have z6:Sep (tu t (Rw.tl (.hop r6 o))::_) _:=hs11.toT;exact q t (.hop r6 o) _ ⟨⟨by omega,by omega⟩,ho⟩ ((aq (n:=m+10) (z6.pull (A:=hand h _) (by symm)) nofun).sub (by ac_nf))
def wA {t:Addr}(r:Rw)(ro:Ro K R)(hk:5<=k)(ok:r.ok)(z:Sep (tu t r.tl::O) H)(q:∀ d H',Sep (mh R d r::tu t r.tl::O) H'->Q (ut d) H'):aa tab R k 94 [ut t] H Q E:=by
 delta iP;cases r with
 |lg w=>
  have f:∀ x ∈ ([("set":Str),"add","take","read","write","hop"]),cH (v4 w.s) (v4 x)=false:=by cases w<;>decide+kernel
  right;refine ar (f "set" (by decide)) ?_;right;refine ar (f "add" (by decide)) ?_;right;refine ar (f "take" (by decide)) ?_;right;refine ar (f "read" (by decide)) ?_;right;refine ar (f "write" (by decide)) ?_;right;refine ar (f "hop" (by decide)) ?_;right;exact FO w nofun z q
 |hop n o=>
  right
  repeat walk_at "sc"
  intro d dx g1 g2 g3;exact IK ro nofun ok.1.1 ok.1.2 ok.2 (hU z g1 g2 g3) (λH2 z2=>⟨rfl,q d H2 z2⟩)
 |sp s=>
  cases s with
  |set n i=>
   right
   repeat walk_at "sc"
   intro d dx g1 g2 g3;exact Hu ro nofun ok.1 ok.2 (hU z g1 g2 g3) (λH2 z2=>⟨rfl,q d H2 z2⟩)
  |add n i=>
   right
   repeat walk_at "sc"
   intro d dx g1 g2 g3;exact Gy ro nofun ok.1 ok.2 (hU z g1 g2 g3) (λH2 z2=>⟨rfl,q d H2 z2⟩)
  |take n m=>
   right
   repeat walk_at "sc"
   intro d dx g1 g2 g3;exact GY ro nofun (hU z g1 g2 g3) (λH2 z2=>⟨rfl,q d H2 z2⟩)
  |read n=>
   right
   repeat walk_at "sc"
   intro d dx g1 g2 g3;exact Ij ro nofun (hU z g1 g2 g3) (λH2 z2=>⟨rfl,q d H2 z2⟩)
  |write n=>
   right
   repeat walk_at "sc"
   intro d dx g1 g2 g3;exact HK ro nofun (hU z g1 g2 g3) (λH2 z2=>⟨rfl,q d H2 z2⟩)
def ae {A:aw}:∀ {L O Δ:List aw},ah A O Δ->ah A (L++O) (L++Δ)
 | [],_,_,h=>h
 |B::L,_,_,h=>.t (ae h)
def kE {α:Type}{f:α->aw}{x:α}:∀ {l:List α},x ∈ l->∃ Δ,∀ O,ah (f x) (l.map f++O) (Δ++O)
 |y::l,h=>by
  rcases mo.mp h with rfl|h
  .exact⟨l.map f,λO=>.e⟩
  .obtain⟨Δ,hp⟩:=kE (f:=f) h;exact⟨f y::Δ,λO=>.t (hp O)⟩
abbrev cM (ts:List Addr)(c0:List Int)(g:List (Int×Int)):aw:=⟨λH _=>ts.length=g.length/\∀ (i:Nat) t p,ts[i]? =some t->g[i]? =some p->H t=some (wn [v0 p.1,v0 (gt c0 p.1),v0 p.2]),λH H' D h _ k=>⟨h.1,λi t p e1 e2=>k.tup (h.2 i t p e1 e2)⟩,λH D D' h _=>h⟩
def cM.of {g:List (Int×Int)}(s:Sep (cM ts c0 g::O) H):ts.length=g.length/\∀ (i:Nat) t p,ts[i]? =some t->g[i]? =some p->H t=some (wn [v0 p.1,v0 (gt c0 p.1),v0 p.2]):=let⟨D,k,D1,D2,s1,s2,dj,h1,h2⟩:=s;h1
def cM.snoc {g:List (Int×Int)}{t:Addr}{p:Int×Int}(s:Sep (cM ts c0 g::O) H)(h:H t=some (wn [v0 p.1,v0 (gt c0 p.1),v0 p.2])):Sep (cM (ts++[t]) c0 (g++[p])::O) H:=by
 obtain⟨h1,h2⟩:=cM.of s;refine s.drop.free λ_=>⟨by rw[ci,ci,h1];rfl,λn u c e1 e2=>?_⟩
 by_cases e:n<ts.length
 .rw[getElem?_append_left e]at e1;rw[getElem?_append_left nofun]at e2;exact h2 n u c e1 e2
 .rw[getElem?_append_right nofun]at e1;rw[getElem?_append_right nofun,<-h1]at e2;cases q:n-ts.length with
  |zero=>rw[q]at e1 e2;cases e1;cases e2;exact h
  |succ=>rw[q]at e1;cases e1
abbrev cp (R:Rt)(a s lc:Addr)(c0:List Int)(g:List (Int×Int))(cs:List Int)(ws:List Str):aw:=bx λp:Addr×Addr×List Addr=>[pt a (wp (R.cad 17) p.1 [("store",ut s),("before",ut p.2.1),("changes",ut lc)]),pt p.1 (.own a),cP R s cs ws,pt p.2.1 (wl (c0.map v0)),pt lc (wl (p.2.2.map ut)),cM p.2.2 c0 g,pu (c0.length=cs.length/\g.length<=10)]
section
variable {a s lc:Addr}{c0 cs:List Int}{g:List (Int×Int)}{ws:List Str}{i:Int}
def pZ (z:Sep (cp R a s lc c0 g cs ws::O) H):∃ dx lb ts,(c0.length=cs.length/\g.length<=10)/\Sep (pt a (wp (R.cad 17) dx [("store",ut s),("before",ut lb),("changes",ut lc)])::pt dx (.own a)::cP R s cs ws::pt lb (wl (c0.map v0))::pt lc (wl (ts.map ut))::cM ts c0 g::O) H:=by
 obtain⟨⟨dx,lb,ts⟩,z⟩:=ki z;have z:Sep (pt a (wp (R.cad 17) dx [("store",ut s),("before",ut lb),("changes",ut lc)])::pt dx (.own a)::cP R s cs ws::pt lb (wl (c0.map v0))::pt lc (wl (ts.map ut))::cM ts c0 g::pu (c0.length=cs.length/\g.length<=10)::O) H:=z;exact⟨dx,lb,ts,(z.drop.drop.drop.drop.drop.drop).pure,z.sub (by ac_nf)⟩
def tY {lb:Addr}(h:c0.length=cs.length/\g.length<=10)(z:Sep (pt a (wp (R.cad 17) dx [("store",ut s),("before",ut lb),("changes",ut lc)])::pt dx (.own a)::cP R s cs ws::pt lb (wl (c0.map v0))::pt lc (wl (ts.map ut))::cM ts c0 g::O) H):Sep (cp R a s lc c0 g cs ws::O) H:=by
 refine jr (dx,lb,ts) ?_;have z2:=Sep.push (.j2 (.t .k3)) (Sep.yN h z);exact z2
def eY (z:Sep O H)(p:ah (cp R a s lc c0 g cs ws) O Δ):uM cs ws/\c0.length=cs.length/\g.length<=10:=by
 obtain⟨dx,lb,ts,h,z⟩:=pZ (z.pull p);exact⟨rN z .k2,h⟩
def cS:Ob R (cp R a s lc c0 g cs ws) a 17 ["store","before","changes"]:=by
 rintro H D ⟨⟨dx,lb,ts⟩,D1,D2,_,_,_,⟨_,h⟩,_⟩;exact⟨dx,_,h,rfl⟩
def Fn {d:Str}(hk:3<=k)(z:Sep O H)(p:ah (cp R a s lc c0 g cs ws) O Δ)(q:Q (.bl (ai ws d i)) H):aa tab R k 55 [ut a,v4 d,v0 i] H Q E:=by
 obtain⟨dx,lb,ts,h,z1⟩:=pZ (z.pull p);delta i5;right;refine ag fN z1 .k2 rfl rfl ?_;left;exact Fm nofun z1 .k2 q
def dq (hk:4<=k)(z:Sep O H)(p:ah (cp R a s lc c0 g cs ws) O Δ)(q0:ai ws "look" i=true->Q (v0 (gt cs i)) H)
  (q1:ai ws "look" i=false->∀ e H',Sep (jE (R.cad 2) [("deed",v4 "look"),("cell",v0 i)] e false::O) H'->E e H'):aa tab R k 56 [ut a,v0 i] H Q E:=by
 obtain⟨dx,lb,ts,h,z1⟩:=pZ (z.pull p);delta gj;right;refine ag fN z1 .k2 rfl rfl ?_;left;refine Ah nofun z1 .k2 q0 (λhm e H' z2=>q1 hm e H' ?_);have z3:=tY h (z2.sub (Γ':=pt a (wp (R.cad 17) dx [("store",ut s),("before",ut lb),("changes",ut lc)])::pt dx (.own a)::cP R s cs ws::pt lb (wl (c0.map v0))::pt lc (wl (ts.map ut))::cM ts c0 g::jE (R.cad 2) [("deed",v4 "look"),("cell",v0 i)] e false::Δ) (by ac_nf));exact Sep.push (.t p) z3
def j3 {v:Int}(hk:4<=k)(hg:g.length<10)(z:Sep O H)(r:aK (cp R a s lc c0 g cs ws) (cp R a s lc c0 (g++[(i,v)]) (cs.set i.toNat v) ws) O Γ')(hv:0<=v/\v<=1000000000)(q0:ai ws "put" i=true->∀ H',Sep Γ' H'->Q wf H')
  (q1:ai ws "put" i=false->∀ e H',Sep (jE (R.cad 2) [("deed",v4 "put"),("cell",v0 i)] e false::O) H'->E e H'):aa tab R k 57 [ut a,v0 i,v0 v] H Q E:=by
 obtain⟨Δ,p,p'⟩:=r.bC;obtain⟨dx,lb,ts,h,z1⟩:=pZ (z.pull p);have o1:=(rN z1 .k2).1;have h1:=h.1;have hts:=(cM.of (z1.pull (.j2 .k3))).1;delta jb;right;refine ag fN z1 .k2 rfl rfl ?_;left;refine D7 (v:=v) nofun z1 .k2 hv (λhm H1 z2=>?_) (λhm e H' z2=>q1 hm e H' ?_)
 .have hin:=ao hm;clear z1;left;refine bV z2.at rfl rfl rfl ?_;left;refine⟨lc,_,rfl,z2.get (.t .k3),?_⟩;left;refine bV z2.at rfl rfl rfl ?_;left;refine az (z2.get .k3) (di hin.1 nofun) ?_;left;refine zA z2 (ol rfl) (λt H2 z3=>?_);refine⟨_,z3.get (.j2 .k3),tS z3 (.j2 .k3) (by rw[ce];omega) (λH3 z4=>?_)⟩;have z5:=cM.snoc (p:=(i,v)) (z4.pull (.j2 (.t .k3))) z4.at;have em:ts.map ut++[ut t]=(ts++[t]).map ut:=by rw[dL];rfl
  rw[em]at z5;refine q0 hm H3 (Sep.push p' (tY (dx:=dx) (lb:=lb) (ts:=ts++[t]) ⟨by rw[length_set];exact h.1,by rw[ci,f8];omega⟩ (z5.sub (by ac_nf))))
 .have z3:=tY h (z2.sub (Γ':=pt a (wp (R.cad 17) dx [("store",ut s),("before",ut lb),("changes",ut lc)])::pt dx (.own a)::cP R s cs ws::pt lb (wl (c0.map v0))::pt lc (wl (ts.map ut))::cM ts c0 g::jE (R.cad 2) [("deed",v4 "put"),("cell",v0 i)] e false::Δ) (by ac_nf));exact Sep.push (.t p) z3
end
section
variable {b a sa lc:Addr}{h t l w s m i j by':Int}{c0 cs:List Int}{ws:List Str}
def rR (hk:5<=k)(z:Sep O H)(r:aK (cp R a sa lc c0 [] cs ws) (cp R a sa lc c0 [(j,gt cs i)] (cs.set j.toNat (gt cs i)) ws) O Γ')(q0:ai ws "look" i=true->ai ws "put" j=true->∀ H',Sep Γ' H'->Q wf H')
  (q1:ai ws "look" i=false->∀ e H',Sep (jE (R.cad 2) [("deed",v4 "look"),("cell",v0 i)] e false::O) H'->E e H')
  (q2:ai ws "look" i=true->ai ws "put" j=false->∀ e H',Sep (jE (R.cad 2) [("deed",v4 "put"),("cell",v0 j)] e false::O) H'->E e H'):aa tab R k 72 [ut a,v0 i,v0 j] H Q E:=by
 obtain⟨Δ,p1,p2⟩:=r.bC;have ok:=(eY z p1).1;delta yL;right;refine ag cS z p1 rfl rfl ?_;left;refine dq nofun z p1 (λhm=>?_) q1;right;refine ag cS z p1 rfl rfl ?_;left;refine j3 (g:=[]) nofun (by decide) z r (dF ok.2.2.2) (λhp H1 z1=>?_) (q2 hm);right;exact q0 hm hp H1 z1
def lQ (hk:4<=k)(z:Sep O H)(p:ah (cp R a sa lc c0 [] cs ws) O Δ)(q0:ai ws "put" i=true->Q wf H)
  (q1:ai ws "put" i=false->∀ e H',Sep (jE (R.cad 2) [("deed",v4 "put"),("cell",v0 i)] e false::O) H'->E e H'):aa tab R k 71 [ut a,v0 i] H Q E:=by
 delta mr;right;refine ag cS z p rfl rfl ?_;left;refine Fn nofun z p ?_;right;refine cj (λhm=>?_) (λhm=>?_)
 .right;exact q0 hm
 .right;intro x hx;refine dY nofun (z.new hx) (λd H hs=>?_);right;exact fS hs (by ac_rfl) rfl (λH hs=>q1 hm x H (jY hs))
def rD {Γf:Int->Int->List aw}(hk:5<=k)(z:Sep O H)(r:∀ v w:Int,∃ Γ1,aK (cp R a sa lc c0 [] cs ws) (cp R a sa lc c0 [(i,v)] (cs.set i.toNat v) ws) O Γ1/\aK (cp R a sa lc c0 [(i,v)] (cs.set i.toNat v) ws) (cp R a sa lc c0 [(i,v),(j,w)] ((cs.set i.toNat v).set j.toNat w) ws) Γ1 (Γf v w)) (q0:ai ws "look" i=true->ai ws "look" j=true->ai ws "put" i=true->ai ws "put" j=true->∀ H',Sep (Γf (gt cs j) (gt cs i)) H'->Q wf H')
  (q1:ai ws "look" i=false->∀ e H',Sep (jE (R.cad 2) [("deed",v4 "look"),("cell",v0 i)] e false::O) H'->E e H')
  (q2:ai ws "look" i=true->ai ws "look" j=false->∀ e H',Sep (jE (R.cad 2) [("deed",v4 "look"),("cell",v0 j)] e false::O) H'->E e H')
  (q3:ai ws "look" i=true->ai ws "look" j=true->ai ws "put" i=false->∀ e H',Sep (jE (R.cad 2) [("deed",v4 "put"),("cell",v0 i)] e false::O) H'->E e H')
  (q4:ai ws "look" i=true->ai ws "look" j=true->ai ws "put" i=true->ai ws "put" j=false->∀ e H',Sep (jE (R.cad 2) [("deed",v4 "put"),("cell",v0 j)] e false::O) H'->E e H'):aa tab R k 73 [ut a,v0 i,v0 j] H Q E:=by
 obtain⟨Γ1,r1,r2⟩:=r (gt cs j) (gt cs i);obtain⟨Δ,p1,p2⟩:=r1.bC;obtain⟨Δ2,p3,p4⟩:=r2.bC;have ok:=(eY z p1).1;delta kP;right;refine ag cS z p1 rfl rfl ?_;left;refine dq nofun z p1 (λh1=>?_) q1;right;refine ag cS z p1 rfl rfl ?_;left;refine dq nofun z p1 (λh2=>?_) (q2 h1);right;refine lQ nofun z p1 (λh3=>?_) (q3 h1 h2);right;refine lQ nofun z p1 (λh4=>?_) (q4 h1 h2 h3);right;refine ag cS z p1 rfl rfl ?_;left;refine j3 (g:=[]) nofun (by decide) z r1 (dF ok.2.2.2) (λhp H1 z1=>?_) (λhp=>absurd (h3.symm.trans hp) (by decide));right;refine ag cS z1 p3 rfl rfl ?_;left;refine j3 (g:=[_]) nofun (Nat.lt_of_sub_eq_succ rfl) z1 r2 (dF ok.2.2.2) (λhp H2 z2=>?_) (λhp=>absurd (h4.symm.trans hp) (by decide));right;exact q0 h1 h2 h3 h4 H2 z2
end
abbrev gL (x:Bx)(cs:List Int):Wd->List (Int×Int)
 | .copy=>if x.l=0 then[] else[(x.t,gt cs x.h)]
 | .fill=>if x.l=0 then[] else[(x.t,x.s)]
 | .shift=>if x.l=0 then[] else if x.t<=x.h then[(x.t,gt cs x.h)] else[(x.t+x.l-1,gt cs (x.h+x.l-1))]
 | .turn=>if x.l=0 then[] else if x.l=1 then[] else[(x.h,gt cs (x.h+x.l-1)),(x.h+x.l-1,gt cs x.h)]
 |_=>[]
abbrev kZ (R:Rt)(b a sa lc:Addr)(c0:List Int)(g:List (Int×Int))(x:Bx)(cs:List Int)(ws:List Str)(O:List aw)(Q:VK)(E:XK):Out->Prop
 | .on r x' cs'=>∀ H',Sep (aM R b x'::cp R a sa lc c0 g cs' ws::O) H'->Q (v0 r) H'
 | .no d c=>∀ e H',Sep (jE (R.cad 2) [("deed",v4 d),("cell",v0 c)] e false::aM R b x::cp R a sa lc c0 [] cs ws::O) H'->E e H'
section
variable {b a sa lc:Addr}{h t l w s m i j by':Int}{c0 cs:List Int}{ws:List Str}
def xF (ro:Ro K R)(hk:7<=k)(z:Sep (aM R b x::cp R a sa lc c0 [] cs ws::O) H)(q:kZ R b a sa lc c0 (gL x cs .shift) x cs ws O Q E (fO x cs ws)):aa tab R k 82 [v,ut b,ut a] H Q E:=by
 have ok:=lW z .e;have sk:=(eY z .k1).1;obtain⟨h,t,l,w,s,m⟩:=x;obtain⟨⟨o1,o2⟩,⟨o3,o4⟩,⟨o5,o6⟩,o7⟩:=ok;dsimp only at o1 o2 o3 o4 o5 o6;obtain⟨s1,s2,s3,s4⟩:=sk;delta gc;walk_at "ws";refine aN (λe=>?_) (λe=>?_)
 .walk_at "ws";rw[gL,fO,if_pos e,if_pos e]at q;exact q H z
 rw[gL,fO,if_neg e,if_neg e]at q;walk_at "ws";refine aD (λe2=>?_) (λe2=>?_)
 .rw[if_pos e2,if_pos e2]at q;walk_at "ws";refine rR nofun z .k1 (λh1 h2 H1 z1=>?_) (λh1=>?_) (λh1 h2=>?_)
  .have g1:=ao h1;have g2:=ao h2;rw[hm,if_pos h1,if_pos h2]at q;walk_at "ws";refine EV ro nofun z1 .e nofun (λH2 z2=>?_);walk_at "ws";refine Gh ro nofun z2 .e nofun (λH3 z3=>?_);walk_at "ws";exact pH ro nofun z3 .e nofun (λH4 z4=>q H4 z4)
  .rw[hm,if_neg (by rw[h1];decide)]at q;exact q
  .rw[hm,if_pos h1,if_neg (by rw[h2];decide)]at q;exact q
 .rw[if_neg e2,if_neg e2]at q;walk_at "ws";refine rR nofun z .k1 (λh1 h2 H1 z1=>?_) (λh1=>?_) (λh1 h2=>?_)
  .rw[hm,if_pos h1,if_pos h2]at q;walk_at "ws";exact pH ro nofun z1 .e nofun (λH4 z4=>q H4 z4)
  .rw[hm,if_neg (by rw[h1];decide)]at q;exact q
  .rw[hm,if_pos h1,if_neg (by rw[h2];decide)]at q;exact q
def AO (ro:Ro K R)(hk:7<=k)(z:Sep (aM R b x::cp R a sa lc c0 [] cs ws::O) H)(q:kZ R b a sa lc c0 (gL x cs .turn) x cs ws O Q E (kg x cs ws)):aa tab R k 84 [v,ut b,ut a] H Q E:=by
 have ok:=lW z .e;have sk:=(eY z .k1).1;obtain⟨h,t,l,w,s,m⟩:=x;obtain⟨⟨o1,o2⟩,⟨o3,o4⟩,⟨o5,o6⟩,o7⟩:=ok;dsimp only at o1 o2 o3 o4 o5 o6;obtain⟨s1,s2,s3,s4⟩:=sk;delta iQ;walk_at "ws";refine aN (λe=>?_) (λe=>?_)
 .walk_at "ws";rw[gL,kg,if_pos e,if_pos e]at q;exact q H z
 rw[gL,kg,if_neg e,if_neg e]at q;walk_at "ws";refine aN (λe2=>?_) (λe2=>?_)
 .rw[if_pos e2,if_pos e2]at q;walk_at "ws";refine pH ro nofun z .e nofun (λH4 z4=>?_);subst e2;exact q H4 z4
 .rw[if_neg e2,if_neg e2]at q;walk_at "ws";refine rD (Γf:=λv w'=>aM R b ⟨h,t,l,w,s,m⟩::cp R a sa lc c0 [(h,v),(h+l-1,w')] ((cs.set h.toNat v).set (h+l-1).toNat w') ws::O) nofun z (λv w=>⟨_,.t .e,.t .e⟩) (λh1 h2 h3 h4 H1 z1=>?_) (λh1=>?_) (λh1 h2=>?_) (λh1 h2 h3=>?_) (λh1 h2 h3 h4=>?_)
  .have g1:=ao h1;rw[xm,if_pos h1,if_pos h2,if_pos h3,if_pos h4]at q;walk_at "ws";refine EV ro nofun z1 .e nofun (λH2 z2=>?_);walk_at "ws";exact pH ro nofun z2 .e nofun (λH4 z4=>q H4 z4)
  .rw[xm,if_neg (by rw[h1];decide)]at q;exact q
  .rw[xm,if_pos h1,if_neg (by rw[h2];decide)]at q;exact q
  .rw[xm,if_pos h1,if_pos h2,if_neg (by rw[h3];decide)]at q;exact q
  .rw[xm,if_pos h1,if_pos h2,if_pos h3,if_neg (by rw[h4];decide)]at q;exact q
def Bm (ro:Ro K R)(hk:8<=k)(z:Sep (aM R b x::cp R a sa lc c0 [] cs ws::O) H)(q:kZ R b a sa lc c0 (gL x cs .copy) x cs ws O Q E (jZ x cs ws)):aa tab R k 74 [v,ut b,ut a] H Q E:=by
 have ok:=lW z .e;have sk:=(eY z .k1).1;obtain⟨h,t,l,w,s,m⟩:=x;obtain⟨⟨o1,o2⟩,⟨o3,o4⟩,⟨o5,o6⟩,o7,o8⟩:=ok;dsimp only at o1 o2 o3 o4 o5 o6 o7;obtain⟨s1,s2,s3,s4⟩:=sk;delta i4;walk_at "ws";refine aN (λe=>?_) (λe=>?_)
 .walk_at "ws";rw[gL,jZ,if_pos e,if_pos e]at q;exact q H z
 rw[gL,jZ,if_neg e,if_neg e]at q;walk_at "ws";refine rR nofun z .k1 (λh1 h2 H1 z1=>?_) (λh1=>?_) (λh1 h2=>?_)
 .have g1:=ao h1;have g2:=ao h2;rw[hm,if_pos h1,if_pos h2]at q;walk_at "ws";refine Di ro nofun z1 .e nofun (λH2 z2=>?_);walk_at "ws";refine E4 ro nofun z2 .e nofun (λH3 z3=>?_);walk_at "ws";exact pH ro nofun z3 .e nofun (λH4 z4=>q H4 z4)
 .rw[hm,if_neg (nt h1)]at q;exact q
 .rw[hm,if_pos h1,if_neg (nt h2)]at q;exact q
def BQ (ro:Ro K R)(hk:8<=k)(z:Sep (aM R b x::cp R a sa lc c0 [] cs ws::O) H)(q:kZ R b a sa lc c0 (gL x cs .fill) x cs ws O Q E (j7 x cs ws)):aa tab R k 76 [v,ut b,ut a] H Q E:=by
 have ok:=lW z .e;have sk:=(eY z .k1).1;obtain⟨h,t,l,w,s,m⟩:=x;obtain⟨⟨o1,o2⟩,⟨o3,o4⟩,⟨o5,o6⟩,o7,o8,o9⟩:=ok;dsimp only at o1 o2 o3 o4 o5 o6 o7 o8;obtain⟨s1,s2,s3,s4⟩:=sk;delta ja;walk_at "ws";refine aN (λe=>?_) (λe=>?_)
 .walk_at "ws";rw[gL,j7,if_pos e,if_pos e]at q;exact q H z
 rw[gL,j7,if_neg e,if_neg e]at q;walk_at "ws";refine ag cS z .k1 rfl rfl ?_;walk_at "ws";refine j3 (g:=[]) nofun (by decide) z .k1 o8 (λh2 H1 z1=>?_) (λh2=>?_)
 .have g2:=ao h2;rw[if_pos h2]at q;walk_at "ws";refine E4 ro nofun z1 .e nofun (λH3 z3=>?_);walk_at "ws";exact pH ro nofun z3 .e nofun (λH4 z4=>q H4 z4)
 .rw[if_neg (nt h2)]at q;exact q
def Bd (ro:Ro K R)(hk:8<=k)(z:Sep (aM R b x::cp R a sa lc c0 [] cs ws::O) H)(q:kZ R b a sa lc c0 (gL x cs .seek) x cs ws O Q E (k6 x cs ws)):aa tab R k 78 [v,ut b,ut a] H Q E:=by
 have ok:=lW z .e;have sk:=(eY z .k1).1;obtain⟨h,t,l,w,s,m⟩:=x;obtain⟨⟨o1,o2⟩,⟨o3,o4⟩,⟨o5,o6⟩,o7,o8⟩:=ok;dsimp only at o1 o2 o3 o4 o5 o6 o7;obtain⟨s1,s2,s3,s4⟩:=sk;delta jq;walk_at "ws";refine aN (λe=>?_) (λe=>?_)
 .rw[k6,if_pos e]at q;walk_at "ws";rename_i H1 z1;exact q _ z1
 rw[k6,if_neg e]at q;walk_at "ws";refine ag cS z .k1 rfl rfl ?_;walk_at "ws";refine dq nofun z .k1 (λh1=>?_) (λh1=>?_)
 .have g1:=ao h1;rw[if_pos h1]at q;walk_at "ws";refine aN (λe=>?_) (λe=>?_)
  .rw[if_pos e]at q;walk_at "ws";rename_i H1 z1;exact q _ z1
  .rw[if_neg e]at q;walk_at "ws";rename_i H1 z1;refine Di ro nofun z1 .e nofun (λH3 z3=>?_);walk_at "ws";exact pH ro nofun z3 .e nofun (λH4 z4=>q H4 z4)
 .rw[if_neg (nt h1)]at q;exact q
def xS (ro:Ro K R)(hk:8<=k)(z:Sep (aM R b x::cp R a sa lc c0 [] cs ws::O) H)(q:kZ R b a sa lc c0 (gL x cs .mtch) x cs ws O Q E (fZ x cs ws)):aa tab R k 80 [v,ut b,ut a] H Q E:=by
 have ok:=lW z .e;have sk:=(eY z .k1).1;obtain⟨h,t,l,w,s,m⟩:=x;obtain⟨⟨o1,o2⟩,⟨o3,o4⟩,⟨o5,o6⟩,o7,o8⟩:=ok;dsimp only at o1 o2 o3 o4 o5 o6 o7;obtain⟨s1,s2,s3,s4⟩:=sk;delta gd;walk_at "ws";refine aN (λe=>?_) (λe=>?_)
 .rw[fZ,if_pos e]at q;walk_at "ws";rename_i H1 z1;exact q _ z1
 rw[fZ,if_neg e]at q;walk_at "ws";refine ag cS z .k1 rfl rfl ?_;walk_at "ws";refine dq nofun z .k1 (λh1=>?_) (λh1=>?_)
 .have g1:=ao h1;rw[if_pos h1]at q;walk_at "ws";refine ag cS z .k1 rfl rfl ?_;walk_at "ws";refine dq nofun z .k1 (λh2=>?_) (λh2=>?_)
  .have g2:=ao h2;rw[if_pos h2]at q;walk_at "ws";refine aN (λe=>?_) (λe=>?_)
   .rw[if_pos e]at q;walk_at "ws";rename_i H1 z1;refine Di ro nofun z1 .e nofun (λH2 z2=>?_);walk_at "ws";refine E4 ro nofun z2 .e nofun (λH3 z3=>?_);walk_at "ws";exact pH ro nofun z3 .e nofun (λH4 z4=>q H4 z4)
   .rw[if_neg e]at q;walk_at "ws";rename_i H1 z1;exact q _ z1
  .rw[if_neg (nt h2)]at q;exact q
 .rw[if_neg (nt h1)]at q;exact q
end
abbrev gS (x:Bx):Sp->List (Int×Int)
 | .write n=>[(x.t,x.g n)]
 |_=>[]
abbrev cC (R:Rt)(b a sa lc:Addr)(c0:List Int)(g:List (Int×Int))(x:Bx)(cs:List Int)(ws:List Str)(O:List aw)(Q:VK)(E:XK):vx->Prop
 | .on x' cs'=>∀ H',Sep (aM R b x'::cp R a sa lc c0 g cs' ws::O) H'->Q (v0 1) H'
 | .no d c=>∀ e H',Sep (jE (R.cad 2) [("deed",v4 d),("cell",v0 c)] e false::aM R b x::cp R a sa lc c0 [] cs ws::O) H'->E e H'
 | .nf n i=>∀ e H',Sep (jE (R.cad 3) [("box",v4 n.nm),("number",v0 i)] e false::aM R b x::cp R a sa lc c0 [] cs ws::O) H'->E e H'
def jP {b sa lc:Addr}{cs:List Int}{n:Bn}(ro:Ro K R)(hk:4<=k)(z:Sep (aM R b x::cp R a sa lc c0 [] cs ws::O) H)(q:cC R b a sa lc c0 [] x cs ws O (λ_=>Q wf) E (aX x cs n i)):aa tab R k 14 [ut b,v4 n.nm,v0 i] H Q E:=by
 unfold aX at q;refine JZ ro hk z (λh H' z'=>?_) (λh e H' z'=>?_)
 .rw[if_pos h]at q;exact q H' z'
 .rw[if_neg (by rw[h];exact Bool.false_ne_true)]at q;exact q e H' z'
def cC.imp {b sa lc:Addr}{g:List (Int×Int)}{cs:List Int}{Q':VK}(h:∀ H',Q (v0 1) H'->Q' (v0 1) H'):∀ {o:vx},cC R b a sa lc c0 g x cs ws O Q E o->cC R b a sa lc c0 g x cs ws O Q' E o
 | .on _ _,q=>λH' z=>h _ (q H' z)
 | .no _ _,q=>q
 | .nf _ _,q=>q
def A6 (sp:Sp)(ro:Ro K R):∃ f,tab.me.lookup (sp.cl,("step":Str))=some f/\(∀ Ψ,dflt ⟨tab,R,Ψ,true⟩ f 3=[])/\∀ {k:Nat}{de b a sa lc:Addr}{c0:List Int}{x:Bx}{cs:List Int}{ws:List Str}{O:List aw}{H:Hp}{Q:VK}{E:XK},5<=k->Sep (aM R b x::cp R a sa lc c0 [] cs ws::sd R de sp::O) H->cC R b a sa lc c0 (gS x sp) x cs ws (sd R de sp::O) Q E (jB x cs ws sp)->aa tab R k f [ut de,ut b,ut a] H Q E:=by
 cases sp with
 |set n i=>
  refine⟨29,rfl,λ_=>rfl,λ{k de b a sa lc c0 x cs ws O H Q E} hk z q=>wc (d:=kL) nofun rfl rfl ?_⟩;obtain⟨dx,e⟩:=ql z (by symm);right;refine ag bb z (by symm) rfl rfl ?_;left;refine bV e rfl rfl rfl ?_;left;refine bV e rfl rfl rfl ?_;left;refine a8 (vs':=[_,_,_]) rfl ?_;exact jP ro nofun z (cC.imp (Q:=Q) (λH' h=>h) q)
 |add n i=>
  refine⟨32,rfl,λ_=>rfl,λ{k de b a sa lc c0 x cs ws O H Q E} hk z q=>wc (d:=kG) nofun rfl rfl ?_⟩;obtain⟨dx,e⟩:=ql z (by symm);right;refine ag bb z (by symm) rfl rfl ?_;left;refine bV e rfl rfl rfl ?_;right;refine ag bb z (by symm) rfl rfl ?_;left;refine bV e rfl rfl rfl ?_;left;refine a8 (vs':=[_,_]) rfl ?_;refine wL (n:=n) ro nofun z (by symm) ?_;left;refine bV e rfl rfl rfl ?_;right;refine a8 (vs':=[_,_,_]) rfl ?_;exact jP ro nofun z (cC.imp (Q:=Q) (λH' h=>h) q)
 |take n m=>
  refine⟨35,rfl,λ_=>rfl,λ{k de b a sa lc c0 x cs ws O H Q E} hk z q=>wc (d:=iK) nofun rfl rfl ?_⟩;obtain⟨dx,e⟩:=ql z (by symm);right;refine ag bb z (by symm) rfl rfl ?_;left;refine bV e rfl rfl rfl ?_;right;refine ag bb z (by symm) rfl rfl ?_;left;refine bV e rfl rfl rfl ?_;left;refine a8 (vs':=[_,_]) rfl ?_;refine wL (n:=m) ro nofun z (by symm) ?_;left;refine a8 (vs':=[_,_,_]) rfl ?_;exact jP ro nofun z (cC.imp (Q:=Q) (λH' h=>h) q)
 |read n=>
  refine⟨38,rfl,λ_=>rfl,λ{k de b a sa lc c0 x cs ws O H Q E} hk z q=>wc (d:=i7) nofun rfl rfl ?_⟩;obtain⟨dx,e⟩:=ql z (by symm);right;refine ag bb z (by symm) rfl rfl ?_;left;refine bV e rfl rfl rfl ?_;right;refine ag cS z (by symm) rfl rfl ?_;right;refine ag bb z (by symm) rfl rfl ?_;left;refine a8 (vs':=[_,_]) rfl ?_;refine wL (n:=.h) ro nofun z (by symm) ?_;left;refine a8 (vs':=[_,_]) rfl ?_;have q:cC R b a sa lc c0 [] x cs ws (sd R de (.read n)::O) Q E (if ai ws "look" x.h=true then aX x cs n (gt cs x.h) else .no "look" x.h):=q;refine dq (i:=x.h) nofun z (by symm) (λh=>?_) (λh e H' z'=>?_)
  .rw[if_pos h]at q;left;refine a8 (vs':=[_,_,_]) rfl ?_;exact jP ro nofun z (cC.imp (Q:=Q) (λH' h=>h) q)
  .rw[if_neg (by rw[h];exact Bool.false_ne_true)]at q;exact q e H' z'
 |write n=>
  refine⟨41,rfl,λ_=>rfl,λ{k de b a sa lc c0 x cs ws O H Q E} hk z q=>wc (d:=gN) nofun rfl rfl ?_⟩;obtain⟨dx,e⟩:=ql z (by symm);have q:cC R b a sa lc c0 [(x.t,x.g n)] x cs ws (sd R de (.write n)::O) Q E (if dP (v0 (x.g n))=true then(if ai ws "put" x.t=true then .on x (cs.set x.t.toNat (x.g n)) else .no "put" x.t) else .nf n (x.g n)):=q;right;refine ag bb z (by symm) rfl rfl ?_;left;refine bV e rfl rfl rfl ?_;left;refine a8 (vs':=[_,_]) rfl ?_;refine wL (n:=n) ro nofun z (by symm) ?_;right;refine b9 (t:="int") ro nofun rfl ?_;cases hc:dP (v0 (x.g n)) with
  |false=>
   rw[if_neg (by rw[hc];exact Bool.false_ne_true)]at q;right;refine bV e rfl rfl rfl ?_;right;intro ex he;refine gk nofun (z.new he) (λd H3 hs3=>⟨rfl,?_⟩);exact fS (G:=⟨tab,R,aa tab R (k-1),true⟩) hs3 .e rfl (λH4 hs4=>q ex H4 (jY hs4))
  |true=>
   rw[if_pos hc]at q;right;refine ag cS z (by symm) rfl rfl ?_;right;refine ag bb z (by symm) rfl rfl ?_;left;refine a8 (vs':=[_,_]) rfl ?_;refine wL (n:=.t) ro nofun z (by symm) ?_;left;refine a8 (vs':=[_,_,_]) rfl ?_;have hc2:0<=x.g n/\x.g n<=1000000000:=by
    have hc3:(decide (0<=x.g n)&&decide (x.g n<=1000000000))=true:=hc;simpa using hc3
   refine j3 (g:=[]) (i:=x.t) nofun (by decide) z .k1 hc2 (λh H' z'=>?_) (λh e H' z'=>?_)
   .rw[if_pos h]at q;exact q H' z'
   .rw[if_neg (by rw[h];exact Bool.false_ne_true)]at q;exact q e H' z'
def w_any (wd:Wd)(ro:Ro K R):∃ f,tab.me.lookup (wd.cl,("step":Str))=some f/\(∀ Ψ,dflt ⟨tab,R,Ψ,true⟩ f 3=[])/\∀ {k:Nat}{v:V}{b a sa lc:Addr}{c0:List Int}{x:Bx}{cs:List Int}{ws:List Str}{O:List aw}{H:Hp}{Q:VK}{E:XK},8<=k->Sep (aM R b x::cp R a sa lc c0 [] cs ws::O) H->kZ R b a sa lc c0 (gL x cs wd) x cs ws O Q E (bK wd x cs ws)->aa tab R k f [v,ut b,ut a] H Q E:=by
 cases wd
 .exact⟨74,rfl,λ_=>rfl,λhk z q=>Bm ro hk z q⟩
 .exact⟨76,rfl,λ_=>rfl,λhk z q=>BQ ro hk z q⟩
 .exact⟨78,rfl,λ_=>rfl,λhk z q=>Bd ro hk z q⟩
 .exact⟨80,rfl,λ_=>rfl,λhk z q=>xS ro hk z q⟩
 .exact⟨82,rfl,λ_=>rfl,λhk z q=>xF ro nofun z q⟩
 .exact⟨84,rfl,λ_=>rfl,λhk z q=>AO ro nofun z q⟩
abbrev gR (x:Bx)(cs:List Int):Rw->List (Int×Int)
 | .lg w=>gL x cs w
 | .sp s=>gS x s
 | .hop _ _=>[]
abbrev rA (R:Rt)(b a sa lc:Addr)(c0:List Int)(g:List (Int×Int))(x:Bx)(cs:List Int)(ws:List Str)(O:List aw)(Q:VK)(E:XK):iu->Prop
 | .on r x' cs'=>∀ H',Sep (aM R b x'::cp R a sa lc c0 g cs' ws::O) H'->Q (v0 r) H'
 | .no d c=>∀ e H',Sep (jE (R.cad 2) [("deed",v4 d),("cell",v0 c)] e false::aM R b x::cp R a sa lc c0 [] cs ws::O) H'->E e H'
 | .nf n i=>∀ e H',Sep (jE (R.cad 3) [("box",v4 n.nm),("number",v0 i)] e false::aM R b x::cp R a sa lc c0 [] cs ws::O) H'->E e H'
def Ca (r:Rw)(ro:Ro K R):∃ f,tab.me.lookup (r.cl,("step":Str))=some f/\(∀ Ψ,dflt ⟨tab,R,Ψ,true⟩ f 3=[])/\∀ {k:Nat}{de b a sa lc:Addr}{c0:List Int}{x:Bx}{cs:List Int}{ws:List Str}{O:List aw}{H:Hp}{Q:VK}{E:XK},8<=k->Sep (aM R b x::cp R a sa lc c0 [] cs ws::mh R de r::O) H->rA R b a sa lc c0 (gR x cs r) x cs ws (mh R de r::O) Q E (cu x cs ws r)->aa tab R k f [ut de,ut b,ut a] H Q E:=by
 cases r with
 |lg w=>
  obtain⟨f,hf,hd,hs⟩:=w_any w ro;refine⟨f,hf,hd,λ{k de b a sa lc c0 x cs ws O H Q E} hk z q=>hs hk z ?_⟩;have q:rA R b a sa lc c0 (gL x cs w) x cs ws (mh R de (.lg w)::O) Q E (ofM (bK w x cs ws)):=q
  revert q
  cases bK w x cs ws<;>exact λq=>q
 |sp s=>
  obtain⟨f,hf,hd,hs⟩:=A6 s ro;refine⟨f,hf,hd,λ{k de b a sa lc c0 x cs ws O H Q E} hk z q=>hs nofun z ?_⟩;have q:rA R b a sa lc c0 (gS x s) x cs ws (mh R de (.sp s)::O) Q E (gh (jB x cs ws s)):=q
  revert q
  cases jB x cs ws s<;>exact λq=>q
 |hop n o=>
  refine⟨66,rfl,λ_=>rfl,λ{k de b a sa lc c0 x cs ws O H Q E} hk z q=>?_⟩;exact BV ro nofun z .k2 .e (q H z)
abbrev iu.g (g:List (Int×Int)):iu->List (Int×Int)
 | .on _ _ _=>g
 |_=>[]
def B4 {de b sa lc:Addr}{cs:List Int}(r:Rw)(ro:Ro K R)(hk:9<=k)(z:Sep (aM R b x::cp R a sa lc c0 [] cs ws::mh R de r::O) H)
  (q:∀ t H',Sep (K6 t (cu x cs ws r)::aM R b ((cu x cs ws r).bx x)::cp R a sa lc c0 ((cu x cs ws r).g (gR x cs r)) ((cu x cs ws r).cs cs) ws::mh R de r::O) H'->Q (ut t) H'):aa tab R k 45 [ut de,ut b,ut a] H Q E:=by
 obtain⟨f,hf,hd,hst⟩:=Ca r ro;delta uF;right;refine ag (CH r) z .k2 (by cases r with|lg w=>rfl|sp s=>cases s<;>rfl|hop n o=>rfl) hf ?_;left;refine a8 (vs':=[ut de,ut b,ut a]) (by show _::(_++dflt _ _ 3)=_;rw[hd];rfl) ?_;refine hst nofun z ?_
 revert q
 cases cu x cs ws r with
 |on n x' cs'=>
  intro q H1 z1;right;rename_i t H3 z3;exact q t H3 z3.toT
 |no d c=>
  intro q e H1 z1;obtain⟨dx,z2⟩:=Cz z1;refine⟨2,_,_,true,z2.at,rfl,rfl,?_⟩;left;refine aG rfl ?_;right;rename_i te H3 z3 t H4 z4;have z5:=(z4.toT.pull .k1).toT;exact q t H4 (jr te (z5.sub (.cons .k1 (.cons .e (.drop (.drop .refl))))))
 |nf n i=>
  intro q e H1 z1;obtain⟨dx,z2⟩:=Cz z1;refine⟨3,_,_,false,z2.at,rfl,rfl,?_⟩;left;refine ar rfl ?_;left;refine⟨3,_,_,true,z2.at,rfl,rfl,?_⟩;left;refine aG rfl ?_;right;rename_i te H3 z3 t H4 z4;have z5:=(z4.toT.pull .k1).toT;exact q t H4 (jr te (z5.sub (.cons .k1 (.cons .e (.drop (.drop .refl))))))
abbrev g7 (R:Rt)(m l s b en:Addr)(at_:Int)(ds:List V):aw:=bx λdx:Addr=>[pt m (wp (R.cad 18) dx [("deeds",ut l),("store",ut s),("boxes",ut b),("at",v0 at_),("entries",ut en)]),pt dx (.own m),pt l (wl ds)]
section
variable {m l s b a lc en:Addr}{at_:Int}{ds:List V}{rs:List Rw}{x:Bx}{c0 cs:List Int}{ws:List Str}
def pT (z:Sep (g7 R m l s b en at_ ds::O) H):∃ dx,Sep (pt m (wp (R.cad 18) dx [("deeds",ut l),("store",ut s),("boxes",ut b),("at",v0 at_),("entries",ut en)])::pt dx (.own m)::pt l (wl ds)::O) H:=ki z
def xA (z:Sep (pt m (wp (R.cad 18) dx [("deeds",ut l),("store",ut s),("boxes",ut b),("at",v0 at_),("entries",ut en)])::pt dx (.own m)::pt l (wl ds)::O) H):Sep (g7 R m l s b en at_ ds::O) H:=jr dx z
def kJ:Ob R (g7 R m l s b en at_ ds) m 18 ["deeds","store","boxes","at","entries"]:=by
 rintro H D ⟨dx,D1,D2,_,_,_,⟨_,h⟩,_⟩;exact⟨dx,_,h,rfl⟩
abbrev gM (rs:List Rw)(at_:Int)(x:Bx)(cs:List Int)(ws:List Str):List (Int×Int):=match rs[at_.toNat]? with
 |none=>[]
 |some r=>(cu x cs ws r).g (gR x cs r)
def t4 (hk:1<=k)(z:Sep O H)(p:ah (g7 R m l s b en at_ ds) O Δ)(q:Q (.bl (decide (at_=ds.length))) H):aa tab R k 47 [ut m] H Q E:=by
 delta dI;obtain⟨dx,z1⟩:=pT (z.pull p);right;have e:cH (v0 at_) (v0 (ds.length:Int))=decide (at_=(ds.length:Int)):=by
  show(at_ ==(ds.length:Int))=_
  by_cases h:at_=(ds.length:Int)
  .rw[decide_eq_true h,beq_iff_eq];exact h
  .rw[decide_eq_false h];simpa using h
 rw[e];exact q
def vw (ro:Ro K R)(hk:10<=k)(h0:0<=at_)(h1:at_<=ds.length)(hd:c9 R O ds rs)(z:Sep (g7 R m l s b en at_ ds::cp R a s lc c0 [] cs ws::aM R b x::O) H)
  (q:∀ H',Sep (g7 R m l s b en (mS rs at_ x cs ws).at_ ds::cp R a s lc c0 (gM rs at_ x cs ws) (mS rs at_ x cs ws).cs ws::aM R b (mS rs at_ x cs ws).x::O) H'->Q (v4 (mS rs at_ x cs ws).w) H'):aa tab R k 48 [ut m,ut a] H Q E:=by
 delta cJ;unfold mS gM at q;right;refine ag kJ z .e rfl rfl ?_;left;refine t4 nofun z .e ?_
 by_cases he:at_=ds.length
 .rw[decide_eq_true he];right;rw[getElem?_eq_none (by have:=hd.1;omega)]at q;exact q H z
 .rw[decide_eq_false he];have hlt:at_.toNat<rs.length:=by have:=hd.1;omega
  have er:rs[at_.toNat]? =some rs[at_.toNat]:=li hlt;generalize rs[at_.toNat]=r at er;obtain⟨de,Δ,e2,p⟩:=hd.2 _ _ er;rw[er]at q;dsimp only at q;obtain⟨dx,z1⟩:=pT z;right;refine az (i:=at_) (by grind) (aW h0 e2) ?_;right;have z2:Sep (aM R b x::cp R a s lc c0 [] cs ws::mh R de r::pt m (wp (R.cad 18) dx [("deeds",ut l),("store",ut s),("boxes",ut b),("at",v0 at_),("entries",ut en)])::pt dx (.own m)::pt l (wl ds)::Δ) H:=z1.sub (.cons (.t .k3) (.cons .k3 (.cons (.j2 (.t p)) .refl)));refine B4 r ro nofun z2 (λt H2 z3=>?_);clear z z1 z2
  revert q z3
  cases cu x cs ws r with
  |on n x' cs'=>
   intro q z3;have z3:Sep (tu t [v0 n,wf]::aM R b x'::cp R a s lc c0 (gR x cs r) cs' ws::mh R de r::pt m (wp (R.cad 18) dx [("deeds",ut l),("store",ut s),("boxes",ut b),("at",v0 at_),("entries",ut en)])::pt dx (.own m)::pt l (wl ds)::Δ) H2:=z3;right;refine g8 ?_;left;refine ar rfl ?_;right;rename_i H4 z4;rw[hd.1]at z4;refine q H4 (xA (dx:=dx) ?_);exact(z4.sub (Γ':=mh R de r::pt m _::pt dx (.own m)::pt l (wl ds)::cp R a s lc c0 (gR x cs r) cs' ws::aM R b x'::Δ) (by ac_nf)).push (.j2 (.j2 (.t p)))
  |no d c=>
   intro q z3;obtain⟨te,z4⟩:=ki z3;have z4:Sep (tu t [wf,ut te]::tu te [v4 d,v0 c]::aM R b x::cp R a s lc c0 [] cs ws::mh R de r::pt m (wp (R.cad 18) dx [("deeds",ut l),("store",ut s),("boxes",ut b),("at",v0 at_),("entries",ut en)])::pt dx (.own m)::pt l (wl ds)::Δ) H2:=z4;right;refine g8 ?_;left;refine aG rfl ?_;refine q H2 (xA (dx:=dx) ?_);exact(z4.sub (Γ':=mh R de r::pt m _::pt dx (.own m)::pt l (wl ds)::cp R a s lc c0 [] cs ws::aM R b x::Δ) (by ac_nf)).push (.j2 (.j2 (.t p)))
  |nf n i=>
   intro q z3;obtain⟨te,z4⟩:=ki z3;have z4:Sep (tu t [wf,ut te]::tu te [v4 "fit",v4 n.nm]::aM R b x::cp R a s lc c0 [] cs ws::mh R de r::pt m (wp (R.cad 18) dx [("deeds",ut l),("store",ut s),("boxes",ut b),("at",v0 at_),("entries",ut en)])::pt dx (.own m)::pt l (wl ds)::Δ) H2:=z4;right;refine g8 ?_;left;refine aG rfl ?_;refine q H2 (xA (dx:=dx) ?_);exact(z4.sub (Γ':=mh R de r::pt m _::pt dx (.own m)::pt l (wl ds)::cp R a s lc c0 [] cs ws::aM R b x::Δ) (by ac_nf)).push (.j2 (.j2 (.t p)))
end
section
variable {m l s b a lc en:Addr}{at_:Int}{ds es:List V}{rs:List Rw}{x:Bx}{c0 cs:List Int}{ws:List Str}
def vC (ro:Ro K R)(hk:3<=k)(z:Sep (pt a (wp (R.cad 17) dx [])::pt dx (.own a)::cP R s cs ws::O) H)
  (q:∀ lc H',Sep (cp R a s lc cs [] cs ws::O) H'->Q wf H'):aa tab R k 54 [ut a,ut s] H Q E:=by
 delta cQ;right;rename_i H1 z1;clear z;refine ag fN z1 .k2 rfl rfl ?_;left;refine uA nofun z1 .k2 (λlb H2 z2=>?_);right;rename_i H3 z3 lc H4 z4 H5 z5;refine q lc H5 (tY (dx:=dx) (lb:=lb) (ts:=[]) ⟨rfl,Nat.zero_le _⟩ ?_);have z6:Sep (cM [] cs []::_) H5:=z5.free λ_=>⟨rfl,λi t p e=>nomatch e⟩
 have z7:Sep (pt a (wp (R.cad 17) dx [("store",ut s),("before",ut lb),("changes",ut lc)])::pt dx (.own a)::cP R s cs ws::pt lb (wl (cs.map v0))::pt lc (wl [])::cM [] cs []::O) H5:=z6.sub (by ac_nf);exact z7
structure cA where
 te:Addr
 t1:Addr
 lc:Addr
 at_:Int
 x:Bx
 c0:List Int
 g:List (Int×Int)
abbrev aZ (e:cA):V:=ut e.te
abbrev aU (e:cA):aw:=bx λts:List Addr=>[tu e.te [v0 e.at_,ut e.t1,ut e.lc],tu e.t1 (e.x.ls.map v0),pt e.lc (wl (ts.map ut)),cM ts e.c0 e.g]
def Bh {e:cA}(z:Sep (aU e::O) H):∃ ts,Sep (tu e.te [v0 e.at_,ut e.t1,ut e.lc]::tu e.t1 (e.x.ls.map v0)::pt e.lc (wl (ts.map ut))::cM ts e.c0 e.g::O) H:=ki z
def vf {e:cA}(z:Sep (tu e.te [v0 e.at_,ut e.t1,ut e.lc]::tu e.t1 (e.x.ls.map v0)::pt e.lc (wl (ts.map ut))::cM ts e.c0 e.g::O) H):Sep (aU e::O) H:=jr ts z
def Bo (ro:Ro K R)(hk:11<=k)(h0:0<=at_)(h1:at_<=ds.length)(le:es.length<=1000)(hd:c9 R O ds rs)(z:Sep (g7 R m l s b en at_ ds::cP R s cs ws::aM R b x::pt en (wl es)::O) H)
  (q1:(mS rs at_ x cs ws).w="on"->∀ te t1 lc H',Sep (aU ⟨te,t1,lc,at_,x,cs,gM rs at_ x cs ws⟩::g7 R m l s b en (mS rs at_ x cs ws).at_ ds::cP R s (mS rs at_ x cs ws).cs ws::aM R b (mS rs at_ x cs ws).x::pt en (wl (es++[ut te]))::O) H'->Q (v4 "on") H')
  (q2:(mS rs at_ x cs ws).w≠"on"->∀ H',Sep (g7 R m l s b en (mS rs at_ x cs ws).at_ ds::cP R s (mS rs at_ x cs ws).cs ws::aM R b (mS rs at_ x cs ws).x::pt en (wl es)::O) H'->Q (v4 (mS rs at_ x cs ws).w) H'):aa tab R k 59 [ut m] H Q E:=by
 delta ef;obtain⟨dx,z1⟩:=pT z;right;refine ag bb z .k2 rfl rfl ?_;left;refine uD ro nofun z .k2 (λt1 H1 z2=>?_);obtain⟨dx,z3⟩:=pT (z2.pull .k1);clear z z1;right;intro a da g1 g2 g3;have z4:Sep (cP R s cs ws::tu t1 (x.ls.map v0)::g7 R m l s b en at_ ds::aM R b x::pt en (wl es)::O) H1:=z2.sub (by ac_nf);clear z3;refine vC ro nofun (hU z4 g1 g2 g3) (λlc H2 z5=>⟨rfl,?_⟩);clear z2 z4;right;refine ag kJ z5 .k2 rfl rfl ?_;left;have z6:Sep (g7 R m l s b en at_ ds::cp R a s lc cs [] cs ws::aM R b x::pt en (wl es)::tu t1 (x.ls.map v0)::O) H2:=z5.sub (by ac_nf);refine vw ro nofun h0 h1 hd.more.more z6 (λH3 z7=>?_);clear z5 z6;obtain⟨da',lb,ts,hg,z8⟩:=pZ (z7.pull .k1);right
 by_cases g:(mS rs at_ x cs ws).w="on"
 .have q1:=q1 g;rw[g];refine aG (by show(("on":Str) =="on")=true;simp) ?_;obtain⟨dx2,z9⟩:=pT (z8.pull (A:=g7 R m l s b en (mS rs at_ x cs ws).at_ ds) (by symm));clear z7;right;refine⟨en,_,rfl,z8.get (by symm),?_⟩;right;rename_i te H4 za;clear z8;refine⟨_,za.get (by symm),tS za (by ac_rfl) nofun (λH5 zb=>?_)⟩;right;have zc:Sep (tu te [v0 at_,ut t1,ut lc]::tu t1 (x.ls.map v0)::pt lc (wl (ts.map ut))::cM ts cs (gM rs at_ x cs ws)::pt m (wp (R.cad 18) dx2 [("deeds",ut l),("store",ut s),("boxes",ut b),("at",v0 (mS rs at_ x cs ws).at_),("entries",ut en)])::pt dx2 (.own m)::pt l (wl ds)::cP R s (mS rs at_ x cs ws).cs ws::aM R b (mS rs at_ x cs ws).x::pt en (wl (es++[ut te]))::O) H5:=zb.toT.sub (by ac_nf);have zd:=vf (e:=⟨te,t1,lc,at_,x,cs,gM rs at_ x cs ws⟩) zc;exact q1 te t1 lc H5 ((xA (zd.sub (Γ':=pt m _::pt dx2 _::pt l _::aU ⟨te,t1,lc,at_,x,cs,gM rs at_ x cs ws⟩::cP R s (mS rs at_ x cs ws).cs ws::aM R b (mS rs at_ x cs ws).x::pt en (wl (es++[ut te]))::O) (by ac_nf))).pull .k1)
 .refine ar (by show((mS rs at_ x cs ws).w =="on")=false;simpa using g) ?_;right;exact q2 g H3 (z8.sub (by ac_nf))
end
def aF {α:Type}{f:α->aw}{x:α}:∀ {l:List α}{i:Nat},l[i]? =some x->∀ {O:List aw},ah (f x) (l.map f++O) ((l.eraseIdx i).map f++O)
 |y::l,0,h,O=>by cases h;exact .e
 |y::l,i+1,h,O=>.t (aF (l:=l) (i:=i) h)
def dh {f:α->aw}{x:α}{l:List α}:ah (f x) ((l++[x]).map f++O) (l.map f++O):=by
 rw[dL,jp];exact ae .e
@[irreducible] noncomputable def si (I:Addr->List V->Hp->Prop) (D:Addr) (ys:List V) (rest:St) (x y w:Option V):VK:=λv H3=>∃ zs,H3 D=some (wl zs)/\zs.length<bn/\∃ ys2 x2 x3 x4,x::y::w::rest=x2::x3::x4::rest/\ys2.length=ys.length+1/\I D ys2 (upd H3 D (wl (zs++[v])))
def si.mk {I:Addr->List V->Hp->Prop}{D:Addr}{ys:List V}{x y w:Option V}{H3:Hp}(h1:H3 D=some (wl ys))(hl:ys.length<=999)(h2:I D (ys++[v]) (upd H3 D (wl (ys++[v])))):si I D ys rest x y w v H3:=
 by unfold si;exact⟨ys,h1,cR nofun,ys++[v],x,y,w,rfl,by simp,h2⟩
def qF {te:TE}(hn:xs.length<=1000)(I:Addr->List V->Hp->Prop)(hl:∀ D ys H,I D ys H->bj R.K H a xs) (h0:∀ D,H D=none->I D [] (upd H D (wl [])))
  (hs:∀ D ys x H',xs[ys.length]? =some x->I D ys H'->∃ t v1 v2 v3,x=ut t/\bg R.K H' t [v1,v2,v3]/\te (some v1::some v2::some v3::rest) H' (si I D ys rest (some v1) (some v2) (some v3)))
  (hd:∀ D ys H',ys.length=xs.length->I D ys H'->Q (ut D) H'):LCt R.K 3 te (Cp R.K a) (none::none::none::rest) H Q:=by
 unfold LCt;intro D hD;refine⟨λi m σ' H'=>m=xs.length-i/\i<=xs.length/\∃ ys x0 x1 x9,σ'=x0::x1::x9::rest/\ys.length=i/\I D ys H',⟨xs.length,by simp,Nat.zero_le _,[],none,none,none,rfl,rfl,h0 D hD⟩,λi m σ' H' ⟨e,hi,ys,x0,x1,x9,e1,e2,h⟩=>?_⟩;subst e1 e2
 by_cases hlt:ys.length<xs.length
 .refine .inr ⟨⟨xs,xs[ys.length],hl D ys H' h,li hlt⟩,λσ2 H2=>∃ ys2 x2 x3 x4,σ2=x2::x3::x4::rest/\ys2.length=ys.length+1/\I D ys2 H2,λσ2 H2 ⟨ys2,x2,x3,x4,f1,f2,f3⟩=>⟨xs.length-(ys.length+1),by omega,rfl,hlt,ys2,x2,x3,x4,f1,f2,f3⟩,λx H'' y=>?_⟩;obtain⟨e1,hy⟩:=y;subst e1;obtain⟨t,v1,v2,v3,rfl,ht,z⟩:=hs D ys x H'' (hy xs (hl D ys H'' h)) h;refine⟨t,[v1,v2,v3],rfl,ht,rfl,rfl,?_⟩;unfold si at z;exact⟨λ_=>z,λe=>nomatch e⟩
 .have:ys.length=xs.length:=by omega
  exact .inl ⟨⟨xs,hl D ys H' h,Nat.le_of_eq this.symm⟩,hd D ys H' this h⟩
section
variable {m l s b a lc en:Addr}{at_:Int}{ds:List V}{rs:List Rw}{x:Bx}{c0 cs:List Int}{ws:List Str}
def ze (ro:Ro K R)(hk:2<=k)(z:Sep (g7 R m l s b en at_ ds::cP R s cs ws::aM R b x::O) H)
  (q:∀ t t1 l1 H',Sep (pt t (wn [v0 at_,ut t1,ut l1])::pt l1 (wl (cs.map v0))::tu t1 (x.ls.map v0)::g7 R m l s b en at_ ds::cP R s cs ws::aM R b x::O) H'->Q (ut t) H'):aa tab R k 51 [ut m] H Q E:=by
 delta dN;obtain⟨dx,z1⟩:=pT z;right;refine ag bb z .k2 rfl rfl ?_;left;refine uD ro nofun z .k2 (λt1 H1 z2=>?_);obtain⟨dx,z3⟩:=pT (z2.pull .k1);right;refine ag fN z2 .k2 rfl rfl ?_;left;refine uA nofun z2 .k2 (λl1 H2 z4=>?_);right;rename_i t H3 z5;exact q t t1 l1 H3 z5
abbrev lj (e:cA):Int×Bx×List Int×List (Int×Int):=(e.at_,e.x,e.c0,e.g)
def El {es:List cA}(hk:2<=k)(le:es.length<=1000)(z:Sep (g7 R m l s b en at_ ds::pt en (wl (es.map aZ))::(es.map aU++O)) H)
  (q:∀ D (fs:List cA) H',fs.map lj=es.map lj->Sep (pt D (wl (fs.map aZ))::g7 R m l s b en at_ ds::pt en (wl (es.map aZ))::(fs.map aU++(es.map aU++O))) H'->Q (ut D) H'):aa tab R k 60 [ut m] H Q E:=by
 delta fH;obtain⟨dx,z1⟩:=pT z;right;clear z1;refine qF (xs:=es.map aZ) (by rw[ce];exact le) (λD ys H=>∃ fs:List cA,ys=fs.map aZ/\fs.map lj=(es.take fs.length).map lj/\Sep (pt D (wl ys)::g7 R m l s b en at_ ds::pt en (wl (es.map aZ))::(fs.map aU++(es.map aU++O))) H) (λD ys H ⟨fs,_,_,zz⟩=>bj.of (zz.get .k2)) (λD hD=>⟨[],rfl,rfl,z.new (o:=wl []) hD⟩) (λD ys y H hy hI=>?_) (λD ys H hl hI=>?_)
 .obtain⟨fs,rfl,e,zz⟩:=hI;rw[im,ce]at hy;obtain⟨o,eo,rfl⟩:=nl.mp hy;have hlt:=(sw.mp eo).1;obtain⟨ts,z2⟩:=Bh (zz.pull (A:=aU o) (.j2 (.t (ae (aF eo)))));refine⟨o.te,v0 o.at_,ut o.t1,ut o.lc,rfl,bg.of z2.atT,?_⟩;right;rename_i lc2 H3 z3 te2 H4 z4;have hc:=cM.of (z4.pull (A:=cM ts o.c0 o.g) (by symm));have ht:H4 o.t1=some (wn (o.x.ls.map v0)):=z4.jG (by symm);have z5:Sep (tu o.te [v0 o.at_,ut o.t1,ut o.lc]::tu o.t1 (o.x.ls.map v0)::pt o.lc (wl (ts.map ut))::cM ts o.c0 o.g::tu te2 [v0 o.at_,ut o.t1,ut lc2]::pt lc2 (wl (ts.map ut))::pt D (wl (fs.map aZ))::g7 R m l s b en at_ ds::pt en (wl (es.map aZ))::(fs.map aU++((es.eraseIdx fs.length).map aU++O))) H4:=z4.toT.sub (by ac_nf);have z6:=Sep.push (.j2 (.j2 (.t (ae (aF eo))))) (vf z5);have z7:Sep (cM ts o.c0 o.g::tu o.t1 (o.x.ls.map v0)::_) H4:=(Sep.F4 ht z6).free λ_=>hc
  have z8:=vf (e:=⟨te2,o.t1,lc2,o.at_,o.x,o.c0,o.g⟩) (z7.sub (Γ':=tu te2 _::tu o.t1 _::pt lc2 _::cM ts o.c0 o.g::pt D (wl (fs.map aZ))::g7 R m l s b en at_ ds::pt en (wl (es.map aZ))::(fs.map aU++(es.map aU++O))) (by ac_nf));have z9:=(z8.pull (A:=pt D (wl (fs.map aZ))) .k1).set (o':=wl (fs.map aZ++[ut te2])) rfl;refine si.mk (z8.get .k1) (by rw[ce];omega) ⟨fs++[⟨te2,o.t1,lc2,o.at_,o.x,o.c0,o.g⟩],by rw[dL];rfl,?_,?_⟩
  .rw[ci,f8,dL,e,take_succ,eo,dL]
   rfl
  .exact Sep.push (.j2 (.t dh)) (z9.pull .k1)
 .obtain⟨fs,rfl,e,zz⟩:=hI;rw[ce,ce]at hl;rw[hl,take_length]at e;exact q D fs H e zz
end
abbrev we (x:Bx):Rw->List Int
 | .lg w=>my w x
 | .sp (.read _)=>[x.h]
 |_=>[]
abbrev j4 (x:Bx):Rw->List Int
 | .lg w=>k9 w x
 | .sp (.write _)=>[x.t]
 |_=>[]
def xC {ks:List Str}{vs:List V}(z:Sep O H)(r:aK (pt d (.dK [])) (pt d (.dK kvs)) O Γ')(e:fY [] (DL ks vs)=kvs)(q:∀ H',Sep Γ' H'->Q (ut d) H'):lR ks d vs H Q:=by
 obtain⟨Δ,p1,p2⟩:=r.bC;unfold lR;rw[e];exact⟨z.get p1,q _ (z.put r rfl)⟩
def rj {sp:Addr}{h t w s:Int}{w0:Str}{E:St->XK}{u6 u7:Option V}(r:Rw)(hk:1<=k)(ln:l≠0)(hr:∀ n,r≠.sp (.read n)/\r≠.sp (.write n)) (ht:r=.lg .turn->l≠1) (hw:r.tl[0]? =some (v4 w0)) (z:Sep O H)
  (q:∀ p l1 l2 H',Sep (tu p [ut l1,ut l2]::pt l1 (wl ((we ⟨h,t,l,w,s,m⟩ r).map v0))::pt l2 (wl ((j4 ⟨h,t,l,w,s,m⟩ r).map v0))::O) H'->D.rt (ut p) H'):
  wB (fv 5 dA.body) ⟨tab,R,aa tab R (k-1),true⟩ D E [some (ut sp),some (ut d),some (v0 h),some (v0 t),some (v0 l),some (v4 w0),u6,u7] H:=by
 right;refine jO ?_;right;refine⟨.inr (by show -(2 ^ 64)<b2i (decide (h<t))/\b2i (decide (h<t))<2 ^ 64;cases decide (h<t)<;>decide),?_⟩;right;intro d7 hd7;have z0:=z.new (o:=.dK []) hd7;generalize upd H d7 (.dK [])=H0 at z0⊢;generalize hf:(l-1)*b2i ((λi j=>decide (j<i)) t h)=fr;clear z;right;rename_i a1 H1 y1 b1 H2 y2 c1 H3 y3 a2 H4 y4 b2 H5 y5 c2 H6 y6 a3 H7 y7 b3 H8 y8 c3 H9 y9 a4 Ha ya b4 Hb yb c4 Hc yc;clear z0 y1 y2 y3 y4 y5 y6 y7 y8 y9 ya yb;refine xC (kvs:=[(.inr "copy",ut c1),(.inr "fill",ut c2),(.inr "seek",ut c3),(.inr "match",ut c4)]) yc (by ac_rfl) rfl (λHd yd=>?_);clear yc;right;rename_i a5 He ye b5 Hf yf c5 Hg yg;refine t9 (k:=.inr "shift") (kvs':=[(.inr "copy",ut c1),(.inr "fill",ut c2),(.inr "seek",ut c3),(.inr "match",ut c4),(.inr "shift",ut c5)]) yg (by ac_rfl) (ol rfl) rfl (λHh yh=>?_);clear yd ye yf yg;right;rename_i a6 Hi yi b6 Hj yj c6 Hk yk;refine t9 (k:=.inr "turn") (kvs':=[(.inr "copy",ut c1),(.inr "fill",ut c2),(.inr "seek",ut c3),(.inr "match",ut c4),(.inr "shift",ut c5),(.inr "turn",ut c6)]) yk (by ac_rfl) (ol rfl) rfl (λHl yl=>?_);clear yh yi yj yk;right;refine⟨d7,_,rfl,yl.get (by symm),?_⟩;right;rename_i a7 Hm ym b7 Hn yn c7 Ho yo;clear yl ym yn;refine JE (k:=.inr w0) (kvs:=[(.inr "copy",ut c1),(.inr "fill",ut c2),(.inr "seek",ut c3),(.inr "match",ut c4),(.inr "shift",ut c5),(.inr "turn",ut c6)]) (by grind) ?_;have hfr:fr=if t<=h then 0 else l-1:=by
  rw[<-hf];show(l-1)*b2i (decide (h<t))=_
  by_cases g:t<=h
  .rw[if_pos g,decide_eq_false nofun];exact Int.mul_zero _
  .rw[if_neg g,decide_eq_true nofun];exact Int.mul_one _
 have fi:∀ {L P:List Int}{p l1 l2:Addr}{Δ:List aw},we ⟨h,t,l,w,s,m⟩ r=L->j4 ⟨h,t,l,w,s,m⟩ r=P->Sep (pt p (wn [ut l1,ut l2])::pt l1 (wl (L.map v0))::pt l2 (wl (P.map v0))::O) Ho->D.rt (ut p) Ho:=λ{L P p l1 l2 Δ} e1 e2 zz=>q p l1 l2 Ho (by rw[e1,e2];exact zz.toT)
 cases r with
 |lg wd=>
  have L0:we ⟨h,t,l,w,s,m⟩ (.lg wd)=Av h t l wd:=if_neg ln;have P0:j4 ⟨h,t,l,w,s,m⟩ (.lg wd)=zM h t l wd:=if_neg ln;cases wd<;>cases hw
  .exact fi (L:=[h]) (P:=[t]) (Δ:=[]) L0 P0 (yo.sub (Γ':=pt c1 (wn [ut a1,ut b1])::pt a1 (wl [v0 h])::pt b1 (wl [v0 t])::O) (by ac_nf))
  .exact fi (L:=[]) (P:=[t]) (Δ:=[]) L0 P0 (yo.sub (Γ':=pt c2 (wn [ut a2,ut b2])::pt a2 (wl [])::pt b2 (wl [v0 t])::O) (by ac_nf))
  .exact fi (L:=[h]) (P:=[]) (Δ:=[]) L0 P0 (yo.sub (Γ':=pt c3 (wn [ut a3,ut b3])::pt a3 (wl [v0 h])::pt b3 (wl [])::O) (by ac_nf))
  .exact fi (L:=[h,t]) (P:=[]) (Δ:=[]) L0 P0 (yo.sub (Γ':=pt c4 (wn [ut a4,ut b4])::pt a4 (wl [v0 h,v0 t])::pt b4 (wl [])::O) (by ac_nf))
  .refine fi (L:=[h+fr]) (P:=[t+fr]) (Δ:=[]) (L0.trans ?_) (P0.trans ?_) (yo.sub (Γ':=pt c5 (wn [ut a5,ut b5])::pt a5 (wl [v0 (h+fr)])::pt b5 (wl [v0 (t+fr)])::O) (by ac_nf))
   .show(if t<=h then[h+0] else[h+(l-1)])=[h+fr];rw[hfr]
    split<;>rfl
   .show(if t<=h then[t+0] else[t+(l-1)])=[t+fr];rw[hfr]
    split<;>rfl
  .exact fi (L:=[h,h+l-1]) (P:=[h,h+l-1]) (Δ:=[]) (L0.trans (if_neg (ht rfl))) (P0.trans (if_neg (ht rfl))) (yo.sub (Γ':=pt c6 (wn [ut a6,ut b6])::pt a6 (wl [v0 h,v0 (h+l-1)])::pt b6 (wl [v0 h,v0 (h+l-1)])::O) (by ac_nf))
 |sp s'=>
  have z7:Sep (pt c7 (wn [ut a7,ut b7])::pt a7 (wl [])::pt b7 (wl [])::O) Ho:=yo.sub (by ac_nf);cases s' with
  |read n=>exact absurd rfl (hr n).1
  |write n=>exact absurd rfl (hr n).2
  |_=>cases hw;exact fi (L:=[]) (P:=[]) (Δ:=[]) rfl rfl z7
 |hop n o=>
  have z7:Sep (pt c7 (wn [ut a7,ut b7])::pt a7 (wl [])::pt b7 (wl [])::O) Ho:=yo.sub (by ac_nf);cases hw;exact fi (L:=[]) (P:=[]) (Δ:=[]) rfl rfl z7
def d8 {sp:Addr}(r:Rw)(hk:1<=k)(z:Sep (tu sp r.tl::ay d x::O) H)
  (q:∀ t l1 l2 H',Sep (tu t [ut l1,ut l2]::pt l1 (wl ((we x r).map v0))::pt l2 (wl ((j4 x r).map v0))::tu sp r.tl::ay d x::O) H'->Q (ut t) H'):aa tab R k 97 [ut sp,ut d] H Q E:=by
 obtain⟨h,t,l,w,s,m⟩:=x;delta dA;obtain⟨w0,hw0⟩:∃ w0,r.tl[0]? =some (v4 w0):=by
  cases r with
  |lg w=>exact⟨_,rfl⟩
  |sp s=>cases s<;>exact⟨_,rfl⟩
  |hop n o=>exact⟨_,rfl⟩
 have hC:((∃ n,r=.sp (.write n))/\w0="write")\/((∃ n,r=.sp (.read n))/\w0="read")\/((∀ n,r≠.sp (.read n)/\r≠.sp (.write n))/\cH (v4 w0) (v4 "write")=false/\cH (v4 w0) (v4 "read")=false/\((cH (v4 w0) (v4 "turn")=true/\r=.lg .turn)\/(cH (v4 w0) (v4 "turn")=false/\r≠.lg .turn))):=by
  cases r with
  |lg w=>
   cases w<;>cases hw0
   all_goals first|exact .inr (.inr ⟨λn=>⟨(λz=>by cases z),(λz=>by cases z)⟩,by decide+kernel,by decide+kernel,.inr ⟨by decide+kernel,(λz=>by cases z)⟩⟩)|exact .inr (.inr ⟨λn=>⟨(λz=>by cases z),(λz=>by cases z)⟩,by decide+kernel,by decide+kernel,.inl ⟨by decide+kernel,rfl⟩⟩)
  |sp s=>
   cases s<;>cases hw0
   all_goals first|exact .inr (.inl ⟨⟨_,rfl⟩,rfl⟩)|exact .inl ⟨⟨_,rfl⟩,rfl⟩|exact .inr (.inr ⟨λn=>⟨(λz=>by cases z),(λz=>by cases z)⟩,by decide+kernel,by decide+kernel,.inr ⟨by decide+kernel,(λz=>by cases z)⟩⟩)
  |hop n o=>cases hw0;exact .inr (.inr ⟨λn=>⟨(λz=>by cases z),(λz=>by cases z)⟩,by decide+kernel,by decide+kernel,.inr ⟨by decide+kernel,(λz=>by cases z)⟩⟩)
 have fi:∀ (L P:List Int){p l1 l2:Addr}{H3:Hp},we ⟨h,t,l,w,s,m⟩ r=L->j4 ⟨h,t,l,w,s,m⟩ r=P->Sep (pt p (wn [ut l1,ut l2])::pt l2 (wl (P.map v0))::pt l1 (wl (L.map v0))::tu sp r.tl::ay d ⟨h,t,l,w,s,m⟩::O) H3->Q (ut p) H3:=by
  intro L P p l1 l2 H3 e1 e2 z3;refine q p l1 l2 H3 ?_;rw[e1,e2];have z4:=z3.toT;walk_at "sp"
 walk_at "wd";refine oM z.atT (aW (i:=0) (by decide) hw0) ?_;walk_at "wd";rcases hC with⟨⟨n,rfl⟩,rfl⟩|⟨⟨n,rfl⟩,rfl⟩|⟨hr,f1,f2,f3⟩
 .repeat walk_at "sc"
  walk_at "wd";rename_i l1 H1 z1 l2 H2 z2 p H3 z3;exact fi [] [t] rfl rfl z3
 .repeat walk_at "sc"
  walk_at "wd"
  repeat walk_at "sc"
  walk_at "wd";rename_i l1 H1 z1 l2 H2 z2 p H3 z3;exact fi [h] [] rfl rfl z3
 .refine ar f1 ?_;walk_at "wd";refine ar f2 ?_;walk_at "wd";have nil:l=0\/(r=.lg .turn/\l=1)->we ⟨h,t,l,w,s,m⟩ r=[]/\j4 ⟨h,t,l,w,s,m⟩ r=[]:=λg=>by
   rcases g with g|⟨rfl,g⟩
   .cases r with
    |lg wd=>exact⟨if_pos g,if_pos g⟩
    |sp s'=>cases s' with
     |read n=>exact absurd rfl (hr n).1
     |write n=>exact absurd rfl (hr n).2
     |_=>exact⟨rfl,rfl⟩
    |hop n o=>exact⟨rfl,rfl⟩
   .have g0:¬ l=0:=by omega
    exact⟨(if_neg g0).trans (if_pos g),(if_neg g0).trans (if_pos g)⟩
  refine aN (λe=>?_) (λe=>?_)
  .walk_at "wd";rename_i l1 H1 z1 l2 H2 z2 p H3 z3;exact fi [] [] (nil (.inl e)).1 (nil (.inl e)).2 z3
  walk_at "wd";have tail:(r=.lg .turn->l≠1)->_:=λg=>rj (R:=R) (k:=k) (sp:=sp) (d:=d) (h:=h) (t:=t) (l:=l) (w:=w) (s:=s) (m:=m) (D:={ nx:=λx H'=>Q wf H',rt:=Q }) (E:=λ_=>E) (u6:=none) (u7:=none) r hk e hr g hw0 z (λp l1 l2 H' y=>q p l1 l2 H' y)
  rcases f3 with⟨f3,rfl⟩|⟨f3,nt⟩
  .refine aG f3 ?_;walk_at "wd";refine aN (λe2=>?_) (λe2=>?_)
   .walk_at "wd";rename_i l1 H1 z1 l2 H2 z2 p H3 z3;exact fi [] [] (nil (.inr ⟨rfl,e2⟩)).1 (nil (.inr ⟨rfl,e2⟩)).2 z3
   .exact tail (λ_=>e2)
  .refine ar f3 ?_;refine ar rfl ?_;exact tail (λg=>absurd g nt)
def ff {sp t l1 l2:Addr}{tl:List V}{ls ps:List Int}{E:St->XK}{u:Option V}(hk:2<=k)(z1:Sep (tu t [ut l1,ut l2]::pt l1 (wl (ls.map v0))::pt l2 (wl (ps.map v0))::tu sp tl::ay d x::pt lv (wl (ws.map v4))::O) H)
  (q0:bD ws ls ps=none->∀ H',Sep (tu sp tl::ay d x::pt lv (wl (ws.map v4))::O) H'->D.rt wf H')
  (q1:∀ dd c,bD ws ls ps=some (dd,c)->∀ t H',Sep (pt t (wn [v4 dd,v0 c,v0 0])::tu sp tl::ay d x::pt lv (wl (ws.map v4))::O) H'->D.rt (ut t) H'):
  wB (fv 2 bS.body) ⟨tab,R,aa tab R (k-1),true⟩ D E [some (ut sp),some (ut d),some (ut lv),some (ut l1),some (ut l2),u] H:=by
 right;refine oh (xs:=ls.map v0) (λj U H=>∃ v,U=[some (ut sp),some (ut d),some (ut lv),some (ut l1),some (ut l2),v]/\(∀ i x,i<j->ls[i]? =some x->ai ws "look" x=true)/\Sep (tu t [ut l1,ut l2]::pt l1 (wl (ls.map v0))::pt l2 (wl (ps.map v0))::tu sp tl::ay d x::pt lv (wl (ws.map v4))::O) H) ?_ ?_ ?_ ?_
 .exact⟨_,rfl,λi x hi=>absurd hi nofun,z1⟩
 .rintro j U H ⟨v,rfl,_,hs⟩;exact bj.of (by grind)
 .rintro j y U H hx ⟨v,rfl,hb,hs⟩;rw[im]at hx;obtain⟨c,hc,rfl⟩:=nl.mp hx;right;refine yz nofun hs (by symm) ?_;right;refine cj (λhm=>?_) (λhm=>?_)
  .right;refine⟨_,rfl,λi x hi hxx=>?_,hs⟩
   by_cases e:i=j
   .subst e;rw[hc]at hxx;cases hxx;exact hm
   .exact hb i x nofun hxx
  .right;rename_i p H2 z2;refine q1 "look" c ?_ p H2 ?_
   .unfold bD;rw[mU hb hc hm]
   .walk_at "sp"
 .rintro U H ⟨v,rfl,hb,hs⟩;have e0:aV ws "look" ls=none:=kj λc hc=>by
   obtain⟨i,hi⟩:=List.mem_iff_getElem?.mp hc;have:=(sw.mp hi).1;exact hb i c (by rw[ce];exact this) hi
  right;refine oh (xs:=ps.map v0) (λj U H=>∃ v,U=[some (ut sp),some (ut d),some (ut lv),some (ut l1),some (ut l2),v]/\(∀ i x,i<j->ps[i]? =some x->ai ws "put" x=true)/\Sep (tu t [ut l1,ut l2]::pt l1 (wl (ls.map v0))::pt l2 (wl (ps.map v0))::tu sp tl::ay d x::pt lv (wl (ws.map v4))::O) H) ?_ ?_ ?_ ?_
  .exact⟨_,rfl,λi x hi=>absurd hi nofun,hs⟩
  .rintro j U H ⟨v,rfl,_,hs⟩;exact bj.of (by grind)
  .rintro j y U H hx ⟨v,rfl,hb,hs⟩;rw[im]at hx;obtain⟨c,hc,rfl⟩:=nl.mp hx;right;refine yz nofun hs (by symm) ?_;right;refine cj (λhm=>?_) (λhm=>?_)
   .right;refine⟨_,rfl,λi x hi hxx=>?_,hs⟩
    by_cases e:i=j
    .subst e;rw[hc]at hxx;cases hxx;exact hm
    .exact hb i x nofun hxx
   .right;rename_i p H2 z2;refine q1 "put" c ?_ p H2 ?_
    .unfold bD;rw[e0];exact mU hb hc hm
    .walk_at "sp"
  .rintro U H ⟨v,rfl,hb2,hs⟩;right;refine q0 ?_ H (by walk_at "sp");unfold bD;rw[e0];exact kj λc hc=>by
    obtain⟨i,hi⟩:=List.mem_iff_getElem?.mp hc;have:=(sw.mp hi).1;exact hb2 i c (by rw[ce];exact this) hi
abbrev iu.tl:iu->List V
 | .on r _ _=>[v4 "on",v0 r,v0 0]
 | .no d c=>[v4 d,v0 c,v0 0]
 | .nf b i=>[v4 "fit",v4 b.nm,v0 i]
def bP {sp:Addr}(r:Rw)(hk:2<=k)(hr:∀ b,r=.sp (.write b)->dP (v0 (x.g b))=true) (z:Sep (tu sp r.tl::ay d x::pt lv (wl (ws.map v4))::O) H)
  (q0:bD ws (we x r) (j4 x r)=none->∀ H',Sep (tu sp r.tl::ay d x::pt lv (wl (ws.map v4))::O) H'->Q wf H')
  (q1:∀ dd c,bD ws (we x r) (j4 x r)=some (dd,c)->∀ t H',Sep (pt t (wn [v4 dd,v0 c,v0 0])::tu sp r.tl::ay d x::pt lv (wl (ws.map v4))::O) H'->Q (ut t) H'):aa tab R k 99 [ut sp,ut d,ut lv] H Q E:=by
 delta bS;cases r with
 |sp s=>
  cases s
  case write b=>
   have hc:(decide (0<=x.g b)&&decide (x.g b<=1000000000))=true:=hr b rfl;have hc:0<=x.g b/\x.g b<=1000000000:=by simpa using hc
   right
   repeat walk_at "sc"
   refine lD z .k1 ?_;right;refine aD (λh0=>?_) (λh0=>absurd hc.1 h0);right;rw[dU];refine aD (λh0=>?_) (λh0=>absurd hc.2 h0);right;refine d8 (.sp (.write b)) nofun z (λt l1 l2 H1 z1=>?_);right;refine⟨t,_,rfl,.inl (bg.of z1.atT),rfl,?_⟩;exact ff hk z1 q0 q1
  all_goals
   right
   repeat walk_at "sc"
   refine d8 (.sp _) nofun z (λt l1 l2 H1 z1=>?_);right;refine⟨t,_,rfl,.inl (bg.of z1.atT),rfl,?_⟩;exact ff hk z1 q0 q1
 |lg w=>
  cases w
  all_goals
   right
   repeat walk_at "sc"
   refine d8 (.lg _) nofun z (λt l1 l2 H1 z1=>?_);right;refine⟨t,_,rfl,.inl (bg.of z1.atT),rfl,?_⟩;exact ff hk z1 q0 q1
 |hop n o=>
  right
  repeat walk_at "sc"
  refine d8 (.hop n o) nofun z (λt l1 l2 H1 z1=>?_);right;refine⟨t,_,rfl,.inl (bg.of z1.atT),rfl,?_⟩;exact ff hk z1 q0 q1
def vc {sp:Addr}{b:Bn}(hk:2<=k)(hb:dP (v0 (x.g b))=false)(z:Sep (tu sp (Rw.tl (.sp (.write b)))::ay d x::pt lv (wl (ws.map v4))::O) H)
  (q:∀ t H',Sep (pt t (wn [v4 "fit",v4 b.nm,v0 (x.g b)])::tu sp (Rw.tl (.sp (.write b)))::ay d x::pt lv (wl (ws.map v4))::O) H'->Q (ut t) H'):aa tab R k 99 [ut sp,ut d,ut lv] H Q E:=by
 delta bS;have hc:(decide (0<=x.g b)&&decide (x.g b<=1000000000))=false:=hb;have hc:0<=x.g b->¬ x.g b<=1000000000:=by simpa using hc
 right
 repeat walk_at "sc"
 refine lD z .k1 ?_;right;refine aD (λh0=>?_) (λh0=>?_)
 .right;rw[dU];refine aD (λh1=>absurd h1 (hc h0)) (λh1=>?_);right;refine lD z .k1 ?_;right;rename_i t H1 z1;exact q t H1 z1
 .right;refine lD z .k1 ?_;right;rename_i t H1 z1;exact q t H1 z1
def y0 {sp p:Addr}{cs:List Int}(r:Rw)(hk:3<=k)(hr:r.ok)(hx:0<=x.l)(hl:cs.length=ws.length)(z:Sep (tu sp r.tl::ay d x::pt p (wl (cs.map v0))::pt lv (wl (ws.map v4))::O) H)
  (q:∀ td H',Sep (pt td (wn (cu x cs ws r).tl)::tu sp r.tl::ay d ((cu x cs ws r).bx x)::pt p (wl (((cu x cs ws r).cs cs).map v0))::pt lv (wl (ws.map v4))::O) H'->Q (ut td) H'):aa tab R k 100 [ut sp,ut d,ut p,ut lv] H Q E:=by
 delta iL;have z0:Sep (tu sp r.tl::ay d x::pt lv (wl (ws.map v4))::pt p (wl (cs.map v0))::O) H:=z.sub (by ac_nf);right;cases r with
 |lg w=>
  refine bP (.lg w) nofun (λb e=>by cases e) z0 (λhb H1 z1=>?_) (λdd c hb t H1 z1=>?_)
  .right;refine bH ?_;left;refine ar rfl ?_;right;rename_i tp H2 z2;refine fX (bg.of z2.at) rfl rfl ?_;left;refine ar (by cases w<;>decide+kernel) ?_;right;refine ar (by cases w<;>decide+kernel) ?_;right;refine ar (by cases w<;>decide+kernel) ?_;right;refine B6 w (O:=pt lv (wl (ws.map v4))::tu sp (Rw.tl (.lg w))::O) nofun hx hl hb (z2.sub (by ac_nf)) ?_;have q:∀ td H',Sep (pt td (wn (ofM (bK w x cs ws)).tl)::tu sp (Rw.tl (.lg w))::ay d ((ofM (bK w x cs ws)).bx x)::pt p (wl (((ofM (bK w x cs ws)).cs cs).map v0))::pt lv (wl (ws.map v4))::O) H'->Q (ut td) H':=q
   revert q
   cases bK w x cs ws with
   |no dd c=>exact λ_=>True.intro
   |on n x' cs'=>
    intro q H3 z3;right;rename_i t H4 z4;exact q t H4 (z4.sub (.cons .e (.cons .k3 .refl)))
  .have e:cu x cs ws (.lg w)=.no dd c:=congrArg ofM (Ek hx hb);rw[e]at q;right;refine bH ?_;left;refine aG rfl ?_;left;exact q t H1 (z1.sub (.cons .e (.cons .e (.cons .e (.cons .k1 .refl)))))
 |hop n o=>
  refine bP (.hop n o) nofun (λb e=>by cases e) z0 (λhb H1 z1=>?_) (λdd c hb t H1 z1=>by cases hb);right;refine bH ?_;left;refine ar rfl ?_;right;rename_i tp H2 z2;refine fX (bg.of z2.at) rfl rfl ?_;left;refine ar (by decide+kernel) ?_;right
  repeat walk_at "sc"
  have hn:∀ c:Bool,qa n (b2i c):=λc=>by cases c<;>(unfold qa b2i;have:=hr.1;omega)
  refine g8 ?_;cases o with
  |none=>
   left;refine aG rfl ?_;right;refine jO ?_;left;refine⟨hn true,?_⟩;right;rename_i t H4 z4;have e:1+n*b2i true=1+n:=by rw[show b2i true=1 from rfl,Int.mul_one]
   rw[e]at z4;exact q t H4 (z4.sub (.cons .e (.cons .k1 (.cons .k1 (.cons .k2 (.cons .k1 (.drop .refl)))))))
  |some i=>
   left;refine ar rfl ?_;right;refine lD (n:=.m) z2 (by symm) ?_;right;refine jO ?_;left;refine⟨hn _,?_⟩;right;rename_i t H4 z4;have e:1+n*b2i (cH (oV (some i)) (v0 (x.g Bn.m)))=if i=x.m then 1+n else 1:=by
    show 1+n*b2i (i ==x.m)=_
    by_cases h:i=x.m
    .rw[if_pos h,show(i ==x.m)=true by simpa using h,show b2i true=1 from rfl,Int.mul_one]
    .rw[if_neg h,show(i ==x.m)=false by simpa using h,show b2i false=0 from rfl,Int.mul_zero,Int.add_zero]
   rw[e]at z4;exact q t H4 (z4.sub (.cons .e (.cons .k1 (.cons .k1 (.cons .k2 (.cons .k1 (.drop .refl)))))))
 |sp s=>
  have q:∀ td H',Sep (pt td (wn (gh (jB x cs ws s)).tl)::tu sp s.tl::ay d ((gh (jB x cs ws s)).bx x)::pt p (wl (((gh (jB x cs ws s)).cs cs).map v0))::pt lv (wl (ws.map v4))::O) H'->Q (ut td) H':=q;cases s with
  |set n i=>
   have q:∀ td H',Sep (pt td (wn (gh (aX x cs n i)).tl)::tu sp (Sp.tl (.set n i))::ay d ((gh (aX x cs n i)).bx x)::pt p (wl (((gh (aX x cs n i)).cs cs).map v0))::pt lv (wl (ws.map v4))::O) H'->Q (ut td) H':=q;refine bP (.sp (.set n i)) nofun (λb e=>by cases e) z0 (λhb H1 z1=>?_) (λdd c hb t H1 z1=>by cases hb);right;refine bH ?_;left;refine ar rfl ?_;right;rename_i tp H2 z2;refine fX (bg.of z2.at) rfl rfl ?_;left;refine aG (by decide+kernel) ?_;right
   repeat walk_at "sc"
   refine jQ (n:=n) (i:=i) nofun ?_;cases hf:bc n (i) with
   |false=>
    rw[aX,if_neg (by rw[hf];exact Bool.false_ne_true)]at q;right;rename_i td H3 z3;exact q td H3 (z3.sub (.cons .e (.cons .k1 (.cons .k1 (.cons .k2 (.cons .k1 (.drop .refl)))))))
   |true=>
    rw[aX,if_pos hf]at q;right;refine BF (n:=n) (i:=i) z2 (by ac_rfl) (λH3 z3=>?_);right;rename_i td H4 z4;exact q td H4 (z4.sub (.cons .e (.cons .k1 (.cons .k1 (.cons .k2 (.cons .k1 (.drop .refl)))))))
  |add n i=>
   have q:∀ td H',Sep (pt td (wn (gh (aX x cs n (x.g n+i))).tl)::tu sp (Sp.tl (.add n i))::ay d ((gh (aX x cs n (x.g n+i))).bx x)::pt p (wl (((gh (aX x cs n (x.g n+i))).cs cs).map v0))::pt lv (wl (ws.map v4))::O) H'->Q (ut td) H':=q;refine bP (.sp (.add n i)) nofun (λb e=>by cases e) z0 (λhb H1 z1=>?_) (λdd c hb t H1 z1=>by cases hb);right;refine bH ?_;left;refine ar rfl ?_;right;rename_i tp H2 z2;refine fX (bg.of z2.at) rfl rfl ?_;left;refine aG (by decide+kernel) ?_;right
   repeat walk_at "sc"
   refine lD (n:=n) z2 (by symm) ?_;right
   repeat walk_at "sc"
   refine jQ (n:=n) (i:=x.g n+i) nofun ?_;cases hf:bc n (x.g n+i) with
   |false=>
    rw[aX,if_neg (by rw[hf];exact Bool.false_ne_true)]at q;right;rename_i td H3 z3;exact q td H3 (z3.sub (.cons .e (.cons .k1 (.cons .k1 (.cons .k2 (.cons .k1 (.drop .refl)))))))
   |true=>
    rw[aX,if_pos hf]at q;right;refine BF (n:=n) (i:=x.g n+i) z2 (by ac_rfl) (λH3 z3=>?_);right;rename_i td H4 z4;exact q td H4 (z4.sub (.cons .e (.cons .k1 (.cons .k1 (.cons .k2 (.cons .k1 (.drop .refl)))))))
  |take n m=>
   have q:∀ td H',Sep (pt td (wn (gh (aX x cs n (x.g m))).tl)::tu sp (Sp.tl (.take n m))::ay d ((gh (aX x cs n (x.g m))).bx x)::pt p (wl (((gh (aX x cs n (x.g m))).cs cs).map v0))::pt lv (wl (ws.map v4))::O) H'->Q (ut td) H':=q;refine bP (.sp (.take n m)) nofun (λb e=>by cases e) z0 (λhb H1 z1=>?_) (λdd c hb t H1 z1=>by cases hb);right;refine bH ?_;left;refine ar rfl ?_;right;rename_i tp H2 z2;refine fX (bg.of z2.at) rfl rfl ?_;left;refine aG (by decide+kernel) ?_;right
   repeat walk_at "sc"
   refine lD (n:=m) z2 (by symm) ?_;right
   repeat walk_at "sc"
   refine jQ (n:=n) (i:=x.g m) nofun ?_;cases hf:bc n (x.g m) with
   |false=>
    rw[aX,if_neg (by rw[hf];exact Bool.false_ne_true)]at q;right;rename_i td H3 z3;exact q td H3 (z3.sub (.cons .e (.cons .k1 (.cons .k1 (.cons .k2 (.cons .k1 (.drop .refl)))))))
   |true=>
    rw[aX,if_pos hf]at q;right;refine BF (n:=n) (i:=x.g m) z2 (by ac_rfl) (λH3 z3=>?_);right;rename_i td H4 z4;exact q td H4 (z4.sub (.cons .e (.cons .k1 (.cons .k1 (.cons .k2 (.cons .k1 (.drop .refl)))))))
  |read n=>
   have q:∀ td H',Sep (pt td (wn (gh (if ai ws "look" x.h=true then aX x cs n (gt cs x.h) else .no "look" x.h)).tl)::tu sp (Sp.tl (.read n))::ay d ((gh (if ai ws "look" x.h=true then aX x cs n (gt cs x.h) else .no "look" x.h)).bx x)::pt p (wl (((gh (if ai ws "look" x.h=true then aX x cs n (gt cs x.h) else .no "look" x.h)).cs cs).map v0))::pt lv (wl (ws.map v4))::O) H'->Q (ut td) H':=q;refine bP (.sp (.read n)) nofun (λb e=>by cases e) z0 (λhb H1 z1=>?_) (λdd c hb t H1 z1=>?_)
   .obtain⟨hm,_⟩:=aE (gq hb).1;have hm:ai ws "look" x.h=true:=hm;have g:=ao hm;rw[if_pos hm]at q;right;refine bH ?_;left;refine ar rfl ?_;right;rename_i tp H2 z2;refine fX (bg.of z2.at) rfl rfl ?_;left;refine aG (by decide+kernel) ?_;right
    repeat walk_at "sc"
    refine lD (n:=.h) z2 (by symm) ?_;right;refine az (i:=x.h) (by grind) (di g.1 nofun) ?_;right
    repeat walk_at "sc"
    refine jQ (n:=n) (i:=gt cs x.h) nofun ?_;cases hf:bc n (gt cs x.h) with
    |false=>
     rw[aX,if_neg (by rw[hf];exact Bool.false_ne_true)]at q;right;rename_i td H3 z3;exact q td H3 (z3.sub (.cons .e (.cons .k1 (.cons .k1 (.cons .k2 (.cons .k1 (.drop .refl)))))))
    |true=>
     rw[aX,if_pos hf]at q;right;refine BF (n:=n) (i:=gt cs x.h) z2 (by ac_rfl) (λH3 z3=>?_);right;rename_i td H4 z4;exact q td H4 (z4.sub (.cons .e (.cons .k1 (.cons .k1 (.cons .k2 (.cons .k1 (.drop .refl)))))))
   .have hm:ai ws "look" x.h=false/\dd="look"/\c=x.h:=by
     cases e:ai ws "look" x.h with
     |true=>rw[show bD ws (we x (.sp (.read n))) (j4 x (.sp (.read n)))=none by show bD ws [x.h] []=none;unfold bD aV;rw[if_pos e];rfl]at hb;cases hb
     |false=>
      rw[show bD ws (we x (.sp (.read n))) (j4 x (.sp (.read n)))=some (("look":Str),x.h) by show bD ws [x.h] []=_;unfold bD aV;rw[if_neg (nt e)]]at hb;cases hb;exact⟨rfl,rfl,rfl⟩
    obtain⟨e1,rfl,rfl⟩:=hm;rw[if_neg (nt e1)]at q;right;refine bH ?_;left;refine aG rfl ?_;left;exact q t H1 (z1.sub (.cons .e (.cons .e (.cons .e (.cons .k1 .refl)))))
  |write n=>
   have q:∀ td H',Sep (pt td (wn (gh (if dP (v0 (x.g n))=true then(if ai ws "put" x.t=true then .on x (cs.set x.t.toNat (x.g n)) else .no "put" x.t) else .nf n (x.g n))).tl)::tu sp (Sp.tl (.write n))::ay d ((gh (if dP (v0 (x.g n))=true then(if ai ws "put" x.t=true then .on x (cs.set x.t.toNat (x.g n)) else .no "put" x.t) else .nf n (x.g n))).bx x)::pt p (wl (((gh (if dP (v0 (x.g n))=true then(if ai ws "put" x.t=true then .on x (cs.set x.t.toNat (x.g n)) else .no "put" x.t) else .nf n (x.g n))).cs cs).map v0))::pt lv (wl (ws.map v4))::O) H'->Q (ut td) H':=q;cases hc:dP (v0 (x.g n)) with
   |false=>
    rw[if_neg (nt hc)]at q;refine vc nofun hc z0 (λt H1 z1=>?_);right;refine bH ?_;left;refine aG rfl ?_;left;exact q t H1 (z1.sub (.cons .e (.cons .e (.cons .e (.cons .k1 .refl)))))
   |true=>
    rw[if_pos hc]at q;refine bP (.sp (.write n)) nofun (λb e=>by cases e;exact hc) z0 (λhb H1 z1=>?_) (λdd c hb t H1 z1=>?_)
    .have hm:ai ws "put" x.t=true:=(aE (gq hb).2).1;have g:=ao hm;rw[if_pos hm]at q;right;refine bH ?_;left;refine ar rfl ?_;right;rename_i tp H2 z2;refine fX (bg.of z2.at) rfl rfl ?_;left;refine ar (by decide+kernel) ?_;right
     repeat walk_at "sc"
     refine lD (n:=n) z2 (by symm) ?_;right;refine lD (n:=.t) z2 (by symm) ?_;left;refine fw (i:=x.t) z2 (by ac_rfl) (dw g.1 (by rw[ce];omega)) cw (λH3 z3=>?_);right;rename_i td H4 z4;exact q td H4 (z4.sub (.cons .e (.cons .k1 (.cons .k1 (.cons .k2 (.cons .k1 (.drop .refl)))))))
    .have hm:ai ws "put" x.t=false/\dd="put"/\c=x.t:=by
      cases e:ai ws "put" x.t with
      |true=>rw[show bD ws (we x (.sp (.write n))) (j4 x (.sp (.write n)))=none by show bD ws [] [x.t]=none;unfold bD aV;dsimp only;unfold aV;rw[if_pos e]]at hb;cases hb
      |false=>
       rw[show bD ws (we x (.sp (.write n))) (j4 x (.sp (.write n)))=some (("put":Str),x.t) by show bD ws [] [x.t]=_;unfold bD aV;dsimp only;unfold aV;rw[if_neg (nt e)]]at hb;cases hb;exact⟨rfl,rfl,rfl⟩
     obtain⟨e1,rfl,rfl⟩:=hm;rw[if_neg (nt e1)]at q;right;refine bH ?_;left;refine aG rfl ?_;left;exact q t H1 (z1.sub (.cons .e (.cons .e (.cons .e (.cons .k1 .refl)))))
abbrev eZ (g:List (Int×Int))(pu:List Int)(n:Nat)(o:Out):Prop:=∀ r x' cs',o=.on r x' cs'->(∀ c ∈ pu,0<=c/\c<(n:Int))/\g=pu.map (λc=>(c,gt cs' c))
section
variable {g:List (Int×Int)}{pu:List Int}{cs:List Int}{n:Nat}{r i j v w:Int}{x:Bx}{ws:List Str}
def dR {d:Str}:eZ g pu n (.no d c):=λ_ _ _ h=>nomatch h
def cx:eZ [] [] n (.on r x cs):=λ_ _ _ _=>⟨λc hc=>(nomatch hc),rfl⟩
def rP (h0:0<=j)(h1:j<cs.length):gt (cs.set j.toNat v) j=v:=Cy (getElem?_set_self nofun)
def BB (h0:0<=i)(h1:0<=j)(hn:i≠j):gt (cs.set j.toNat v) i=gt cs i:=by
 unfold gt;rw[getElem?_set_ne nofun]
def ku (h:0<=j/\j<(n:Int))(hl:cs.length=n):eZ [(j,v)] [j] n (.on r x (cs.set j.toNat v)):=λr' x' cs' e=>by
 cases e;refine⟨λc hc=>by rw[mem_singleton.mp hc];exact h,?_⟩;show[(j,v)]=[(j,gt (cs.set j.toNat v) j)];rw[rP h.1 nofun]
def Ej (hi:0<=i/\i<(n:Int))(h:0<=j/\j<(n:Int))(hn:i≠j)(hl:cs.length=n):eZ [(i,v),(j,w)] [i,j] n (.on r x ((cs.set i.toNat v).set j.toNat w)):=λr' x' cs' e=>by
 cases e;refine⟨λc hc=>?_,?_⟩
 .rcases mo.mp hc with rfl|hc
  .exact hi
  .rw[mem_singleton.mp hc];exact h
 .show[(i,v),(j,w)]=[(i,gt ((cs.set i.toNat v).set j.toNat w) i),(j,gt ((cs.set i.toNat v).set j.toNat w) j)];rw[rP h.1 (by rw[length_set];omega),BB hi.1 h.1 hn,rP hi.1 nofun]
def Iv (wd:Wd)(hl:cs.length=ws.length)(hx:0<=x.l):eZ (gL x cs wd) (k9 wd x) ws.length (bK wd x cs ws):=by
 by_cases e:x.l=0
 .have p0:k9 wd x=[]:=if_pos e;rw[p0];cases wd
  .show eZ (if x.l=0 then _ else _) _ _ (if x.l=0 then _ else _);rw[if_pos e,if_pos e];exact cx
  .show eZ (if x.l=0 then _ else _) _ _ (if x.l=0 then _ else _);rw[if_pos e,if_pos e];exact cx
  .show eZ [] _ _ (if x.l=0 then _ else _);rw[if_pos e];exact cx
  .show eZ [] _ _ (if x.l=0 then _ else _);rw[if_pos e];exact cx
  .show eZ (if x.l=0 then _ else _) _ _ (if x.l=0 then _ else _);rw[if_pos e,if_pos e];exact cx
  .show eZ (if x.l=0 then _ else _) _ _ (if x.l=0 then _ else _);rw[if_pos e,if_pos e];exact cx
 .have p0:k9 wd x=zM x.h x.t x.l wd:=if_neg e;rw[p0];cases wd
  .show eZ (if x.l=0 then _ else _) [x.t] _ (if x.l=0 then _ else hm cs ws x.h x.t _);rw[if_neg e,if_neg e];exact gO (λ_ _ _=>dR) (λa b=>ku (ao b) hl)
  .show eZ (if x.l=0 then _ else _) [x.t] _ (if x.l=0 then _ else if _ then _ else _);rw[if_neg e,if_neg e];exact aj (λb=>ku (ao b) hl) (λ_=>dR)
  .show eZ [] [] _ (if x.l=0 then _ else if _ then(if _ then _ else _) else _);rw[if_neg e];exact aj (λ_=>aj (λ_=>cx) (λ_=>cx)) (λ_=>dR)
  .show eZ [] [] _ (if x.l=0 then _ else if _ then(if _ then(if _ then _ else _) else _) else _);rw[if_neg e];exact aj (λ_=>aj (λ_=>aj (λ_=>cx) (λ_=>cx)) (λ_=>dR)) (λ_=>dR)
  .show eZ (if x.l=0 then _ else if x.t<=x.h then _ else _) (if x.t<=x.h then[x.t+0] else[x.t+(x.l-1)]) _ (if x.l=0 then _ else if x.t<=x.h then _ else _);rw[if_neg e,if_neg e]
   by_cases c:x.t<=x.h
   .rw[if_pos c,if_pos c,if_pos c,Int.add_zero];exact gO (λ_ _ _=>dR) (λa b=>ku (ao b) hl)
   .rw[if_neg c,if_neg c,if_neg c,<-Int.add_sub_assoc];exact gO (λ_ _ _=>dR) (λa b=>ku (ao b) hl)
  .show eZ (if x.l=0 then _ else if x.l=1 then _ else _) (if x.l=1 then _ else _) _ (if x.l=0 then _ else if x.l=1 then _ else xm cs ws x.h (x.h+x.l-1) _);rw[if_neg e,if_neg e]
   by_cases c:x.l=1
   .rw[if_pos c,if_pos c,if_pos c];exact cx
   .rw[if_neg c,if_neg c,if_neg c];exact aj (λa=>aj (λb=>aj (λp1=>aj (λp2=>Ej (ao p1) (ao p2) nofun hl) (λ_=>dR)) (λ_=>dR)) (λ_=>dR)) (λ_=>dR)
def IG {r:Rw}{n:Int}(hl:cs.length=ws.length)(hx:0<=x.l)(ho:cu x cs ws r=.on n x' cs'):(∀ c ∈ j4 x r,0<=c/\c<(ws.length:Int))/\gR x cs r=(j4 x r).map (λc=>(c,gt cs' c)):=by
 cases r with
 |lg wd=>
  have ho:ofM (bK wd x cs ws)=.on n x' cs':=ho;refine Iv wd hl hx n x' cs' ?_;cases h:bK wd x cs ws with
  |on a b c=>rw[h]at ho;cases ho;rfl
  |no a b=>rw[h]at ho;cases ho
 |sp s=>
  cases s with
  |write b=>
   have ho:gh (if dP (v0 (x.g b))=true then(if ai ws "put" x.t=true then .on x (cs.set x.t.toNat (x.g b)) else .no "put" x.t) else .nf b (x.g b))=.on n x' cs':=ho
   by_cases c1:dP (v0 (x.g b))=true
   .rw[if_pos c1]at ho
    by_cases c2:ai ws "put" x.t=true
    .rw[if_pos c2]at ho;have key:=ku (r:=1) (x:=x) (v:=x.g b) (ao c2) hl 1 x _ rfl;cases ho;exact key
    .rw[if_neg c2]at ho;cases ho
   .rw[if_neg c1]at ho;cases ho
  |_=>exact⟨λc hc=>(nomatch hc),rfl⟩
 |hop a o=>exact⟨λc hc=>(nomatch hc),rfl⟩
end
abbrev dX (O:List aw)(ss:List V)(rs:List Rw):Prop:=ss.length=rs.length/\(∀ r ∈ rs,r.ok)/\∀ (i:Nat) (r:Rw),rs[i]? =some r->∃ t Δ,ss[i]? =some (ut t)/\ah (tu t r.tl) O Δ
def dX.more (h:dX O ss rs):dX (A::O) ss rs:=⟨h.1,h.2.1,λi r e=>by
 obtain⟨a,Δ,e2,p⟩:=h.2.2 i r e;exact⟨a,_,e2,.t p⟩⟩
def w6 {cs:List Int}{d:Str}(h:bK wd x cs ws=.no d c):d="look"\/d="put":=by
 revert h
 exact yU (P:=λo=>o=.no d c->_) (λ_ _ e=>by cases e) (λ_ _ h e=>by cases e;exact h) (λ_ _ _ _ _ e=>by cases e)
def vK {cs:List Int}{r:Rw}{d:Str}(h:cu x cs ws r=.no d c):d="look"\/d="put":=by
 have gv:∀ {b:Bn}{i:Int},gh (aX x cs b i)≠.no d c:=λ{b i} e=>by
  unfold aX at e
  split at e<;>cases e
 cases r with
 |lg w=>
  have h:ofM (bK w x cs ws)=.no d c:=h;cases e:bK w x cs ws with
  |on r x' cs'=>rw[e]at h;cases h
  |no d' c'=>rw[e]at h;cases h;exact w6 e
 |hop n o=>cases h
 |sp s=>
  cases s with
  |set n i=>exact absurd h gv
  |add n i=>exact absurd h gv
  |take n m=>exact absurd h gv
  |read n=>
   have h:gh (if ai ws "look" x.h=true then aX x cs n (gt cs x.h) else .no "look" x.h)=.no d c:=h
   split at h
   .exact absurd h gv
   .cases h;exact .inl rfl
  |write n=>
   have h:gh (if dP (v0 (x.g n))=true then(if ai ws "put" x.t=true then .on x (cs.set x.t.toNat (x.g n)) else .no "put" x.t) else .nf n (x.g n))=.no d c:=h
   split at h
   .split at h
    .cases h
    .cases h;exact .inr rfl
   .cases h
def gP {cs:List Int}{b:Bn}(hx:0<=x.l)(h:aX x cs b i=.on x' cs'):0<=x'.l/\cs'.length=cs.length:=by
 unfold aX at h
 by_cases e:bc b i=true
 .rw[if_pos e]at h;cases h;refine⟨?_,rfl⟩;cases b
  .exact hx
  .exact hx
  .have e:(decide (0<=i)&&decide (i<=1000000000))=true:=e;have e:0<=i/\i<=1000000000:=by simpa using e
   exact e.1
  .exact hx
  .exact hx
  .exact hx
 .rw[if_neg e]at h;cases h
def vd {cs:List Int}{s:Sp}(hx:0<=x.l)(h:jB x cs ws s=.on x' cs'):0<=x'.l/\cs'.length=cs.length:=by
 cases s with
 |set b i=>exact gP hx h
 |add b i=>exact gP hx h
 |take b c=>exact gP hx h
 |read b=>
  have h:(if ai ws "look" x.h=true then aX x cs b (gt cs x.h) else .no "look" x.h)=.on x' cs':=h
  by_cases e:ai ws "look" x.h=true
  .rw[if_pos e]at h;exact gP hx h
  .rw[if_neg e]at h;cases h
 |write b=>
  have h:(if dP (v0 (x.g b))=true then(if ai ws "put" x.t=true then .on x (cs.set x.t.toNat (x.g b)) else .no "put" x.t) else .nf b (x.g b))=vx.on x' cs':=h
  by_cases e:dP (v0 (x.g b))=true
  .rw[if_pos e]at h
   by_cases e2:ai ws "put" x.t=true
   .rw[if_pos e2]at h;cases h;exact⟨hx,length_set ..⟩
   .rw[if_neg e2]at h;cases h
  .rw[if_neg e]at h;cases h
def vh {cs:List Int}{r:Rw}{n:Int}(hx:0<=x.l)(h:cu x cs ws r=.on n x' cs'):0<=x'.l/\cs'.length=cs.length:=by
 cases r with
 |lg w=>
  have h:ofM (bK w x cs ws)=.on n x' cs':=h;cases e:bK w x cs ws with
  |no d c=>rw[e]at h;cases h
  |on r y ys=>
   rw[e]at h;cases h;exact yH hx e
 |hop m o=>cases h;exact⟨hx,rfl⟩
 |sp s=>
  have h:gh (jB x cs ws s)=.on n x' cs':=h;cases e:jB x cs ws s with
  |on y ys=>rw[e]at h;cases h;exact vd hx e
  |no d c=>rw[e]at h;cases h
  |nf b i=>rw[e]at h;cases h
def tR {cs:List Int}(hx:0<=x.l):0<=(mS rs at_ x cs ws).x.l/\(mS rs at_ x cs ws).cs.length=cs.length:=by
 unfold mS;cases e:rs[at_.toNat]? with
 |none=>exact⟨hx,rfl⟩
 |some r=>
  dsimp only;cases ho:cu x cs ws r with
  |no d c=>exact⟨hx,rfl⟩
  |nf b i=>exact⟨hx,rfl⟩
  |on n x' cs'=>exact vh hx ho
noncomputable abbrev oA (ow SP d p lv lg:Addr)(at_:Int)(x:Bx)(cs:List Int)(ws:List Str)(lgs:List V)(O:List aw):List aw:=pt ow (wl [ut SP,v0 at_,ut d,ut p,ut lv,ut lg])::ay d x::pt p (wl (cs.map v0))::pt lv (wl (ws.map v4))::pt lg (wl lgs)::O
def EJ {r:Rw}:(j4 x r).length<=2:=by
 cases r with
 |lg w=>
  show(k9 w x).length<=2;unfold k9
  split
  .exact Nat.zero_le _
  .unfold zM;cases w<;>dsimp only<;>(try split)<;>simp
 |sp s=>cases s<;>simp[j4]
 |hop a o=>simp[j4]
section
variable {ow SP d p lv lg:Addr}{at_:Int}{ss lgs:List V}{rs:List Rw}{x:Bx}{cs:List Int}{ws:List Str}
def Iw (hk:4<=k)(h0:0<=at_)(h1:at_<=ss.length)(hx:0<=x.l)(hl:cs.length=ws.length)(l60:ws.length<=60)(le:lgs.length<=1000)(hs:dX O ss rs)(z:Sep (oA ow SP d p lv lg at_ x cs ws lgs (pt SP (wl ss)::O)) H)
  (q1:(mS rs at_ x cs ws).w="on"->∀ te t1 lc H',Sep (aU ⟨te,t1,lc,at_,x,cs,gM rs at_ x cs ws⟩::oA ow SP d p lv lg (mS rs at_ x cs ws).at_ (mS rs at_ x cs ws).x (mS rs at_ x cs ws).cs ws (lgs++[ut te]) (pt SP (wl ss)::O)) H'->Q (v4 "on") H')
  (q2:(mS rs at_ x cs ws).w≠"on"->∀ H',Sep (oA ow SP d p lv lg (mS rs at_ x cs ws).at_ (mS rs at_ x cs ws).x (mS rs at_ x cs ws).cs ws lgs (pt SP (wl ss)::O)) H'->Q (v4 (mS rs at_ x cs ws).w) H'):aa tab R k 104 [ut ow] H Q E:=by
 delta lX;have hl1:=hs.1;unfold mS gM at q1;unfold mS at q2;right;refine⟨ow,_,rfl,.inr (bj.of z.at),rfl,?_⟩;right;refine aN (λhe=>?_) (λhe=>?_)
 .rw[getElem?_eq_none nofun]at q2;right;exact q2 (show("end":Str)≠"on" by decide+kernel) H z
 .have hlt:at_.toNat<rs.length:=by omega
  have er:rs[at_.toNat]? =some rs[at_.toNat]:=li hlt;have ok:=hs.2.1 _ (getElem_mem hlt);generalize rs[at_.toNat]=r at er ok;obtain⟨t,Δ,e2,pt_⟩:=hs.2.2 _ _ er;rw[er]at q1 q2;dsimp only at q1 q2;right;refine pY z (z.get .k1) (λt1 H1 g z1=>?_);rw[qg]at z1;have z1:Sep (pt t1 (wn (x.ls.map v0))::oA ow SP d p lv lg at_ x cs ws lgs (pt SP (wl ss)::O)) H1:=z1;clear z;right;refine az (i:=at_) (by grind) (aW h0 e2) ?_;right;refine d8 (O:=pt p (wl (cs.map v0))::pt lv (wl (ws.map v4))::pt t1 (wn (x.ls.map v0))::pt ow (wl [ut SP,v0 at_,ut d,ut p,ut lv,ut lg])::pt lg (wl lgs)::pt SP (wl ss)::O) r nofun (Sep.F4 (z1.jG (.j2 (.j2 (.j2 (.t pt_))))) (z1.sub (by ac_nf))) (λt2 l1 l2 H2 z2=>?_);clear z1;right;rename_i old H3 z3;clear z2;refine az (i:=at_) (by grind) (aW h0 e2) ?_;right;refine y0 (O:=pt old (wl (cs.map v0))::pt l2 (wl ((j4 x r).map v0))::pt t1 (wn (x.ls.map v0))::pt ow (wl [ut SP,v0 at_,ut d,ut p,ut lv,ut lg])::pt lg (wl lgs)::pt SP (wl ss)::O) r nofun ok hx hl (z3.sub (by ac_nf)) (λtd H4 z4=>?_);clear z3;generalize ho:cu x cs ws r=o at q1 q2 z4;cases o with
  |on n x' cs'=>
   obtain⟨g1,g2⟩:=IG hl hx ho;have z4:Sep (pt td (wn [v4 "on",v0 n,v0 0])::tu t r.tl::ay d x'::pt p (wl (cs'.map v0))::pt lv (wl (ws.map v4))::pt old (wl (cs.map v0))::pt l2 (wl ((j4 x r).map v0))::pt t1 (wn (x.ls.map v0))::pt ow (wl [ut SP,v0 at_,ut d,ut p,ut lv,ut lg])::pt lg (wl lgs)::pt SP (wl ss)::O) H4:=z4;have q1:=q1 rfl;have q1:∀ te t1 lc H',Sep (aU ⟨te,t1,lc,at_,x,cs,gR x cs r⟩::oA ow SP d p lv lg (min (at_+n) rs.length) x' cs' ws (lgs++[ut te]) (pt SP (wl ss)::O)) H'->Q (v4 "on") H':=q1;rw[g2]at q1;have l24:(j4 x r).length<=2:=EJ;have hc':cs'.length=cs.length:=by
    have h:=(tR (rs:=[r]) (at_:=0) (cs:=cs) (ws:=ws) hx).2;have e:mS [r] 0 x cs ws=⟨"on",min (0+n) [r].length,x',cs'⟩:=by
     show(match cu x cs ws r with
      | .on n x' cs'=>(⟨"on",min (0+n) [r].length,x',cs'⟩:JR)
      |_=>⟨"stop",0,x,cs⟩)=_
     rw[ho]
    rw[e]at h;exact h
   generalize j4 x r=pu at g1 g2 q1 z4 l24;right
   repeat walk_at "sc"
   refine⟨lg,_,rfl,z4.get (by symm),?_⟩;right;refine xI (xs:=pu.map v0) (by rw[ce];omega) (λD ys H=>∃ ts:List Addr,ys=ts.map ut/\Sep (pt D (wl ys)::cM ts cs ((pu.take ts.length).map (λc=>(c,gt cs' c)))::pt td (wn [v4 "on",v0 n,v0 0])::ay d x'::pt p (wl (cs'.map v0))::pt lv (wl (ws.map v4))::pt old (wl (cs.map v0))::pt l2 (wl (pu.map v0))::pt t1 (wn (x.ls.map v0))::pt ow (wl [ut SP,v0 at_,ut d,ut p,ut lv,ut lg])::pt lg (wl lgs)::pt SP (wl ss)::O) H) (λD ys H ⟨ts,_,zz⟩=>bj.of (zz.get (by symm))) (λD hD=>⟨[],rfl,?_⟩) (λD ys y H hy hI=>?_) (λD ys H hys hI=>?_)
   .have z5:=z4.new (o:=wl []) hD;have z6:Sep (cM [] cs []::_) _:=z5.free λ_=>⟨rfl,λi t p e=>nomatch e⟩
    have z7:Sep (pt D (wl [])::cM [] cs []::pt td (wn [v4 "on",v0 n,v0 0])::ay d x'::pt p (wl (cs'.map v0))::pt lv (wl (ws.map v4))::pt old (wl (cs.map v0))::pt l2 (wl (pu.map v0))::pt t1 (wn (x.ls.map v0))::pt ow (wl [ut SP,v0 at_,ut d,ut p,ut lv,ut lg])::pt lg (wl lgs)::pt SP (wl ss)::O) _:=z6.sub (by ac_nf);exact z7
   .obtain⟨ts,rfl,zz⟩:=hI;rw[im,ce]at hy;obtain⟨c,ec,rfl⟩:=nl.mp hy;have hin:=g1 c (cr ec);have hlt:=(sw.mp ec).1;right;refine az (zz.get (by symm)) (di hin.1 nofun) ?_;right;refine az (zz.get (by symm)) (di hin.1 nofun) ?_;right;rename_i t' H6 z7;have z8:=cM.snoc (p:=(c,gt cs' c)) (z7.pull (A:=cM ts cs _) .k2) z7.at;have z9:=(z8.pull (A:=pt D (wl (ts.map ut))) (by symm)).set (o':=wl (ts.map ut++[ut t'])) rfl;refine rm.mk (z7.get .k1) (by rw[ce];omega) ⟨ts++[t'],by rw[dL];rfl,?_⟩;have et:(pu.take (ts++[t']).length).map (λc=>(c,gt cs' c))=(pu.take ts.length).map (λc=>(c,gt cs' c))++[(c,gt cs' c)]:=by
     rw[ci,f8,take_succ,ec,dL]
     rfl
    rw[et];exact z9.sub (by ac_nf)
   .obtain⟨ts,rfl,zz⟩:=hI;rw[ce,ce]at hys;rw[hys,take_length]at zz;clear z4;right;rename_i te H6 z7;refine⟨_,z7.get (by symm),tS z7 (by ac_rfl) nofun (λH7 z8=>?_)⟩;right;rename_i H8 z9;have za:=(z9.toT.pull (A:=pt t1 (wn (x.ls.map v0))) (by symm)).toT;have zb:Sep (tu te [v0 at_,ut t1,ut D]::tu t1 (x.ls.map v0)::pt D (wl (ts.map ut))::cM ts cs (pu.map (λc=>(c,gt cs' c)))::pt ow (wl [ut SP,v0 (min (at_+n) ss.length),ut d,ut p,ut lv,ut lg])::ay d x'::pt p (wl (cs'.map v0))::pt lv (wl (ws.map v4))::pt lg (wl (lgs++[ut te]))::pt SP (wl ss)::O) H8:=za.sub (by ac_nf);rw[hl1]at zb;exact q1 te t1 D H8 (vf (e:=⟨te,t1,D,at_,x,cs,pu.map (λc=>(c,gt cs' c))⟩) zb)
  |no dd c=>
   have z4:Sep (pt td (wn [v4 dd,v0 c,v0 0])::tu t r.tl::ay d x::pt p (wl (cs.map v0))::pt lv (wl (ws.map v4))::pt old (wl (cs.map v0))::pt l2 (wl ((j4 x r).map v0))::pt t1 (wn (x.ls.map v0))::pt ow (wl [ut SP,v0 at_,ut d,ut p,ut lv,ut lg])::pt lg (wl lgs)::pt SP (wl ss)::O) H4:=z4;right;refine ar (by rcases vK ho with rfl|rfl<;>decide+kernel) ?_;right;exact q2 (show("stop":Str)≠"on" by decide+kernel) H4 (z4.sub (by ac_nf))
  |nf b i=>
   have z4:Sep (pt td (wn [v4 "fit",v4 b.nm,v0 i])::tu t r.tl::ay d x::pt p (wl (cs.map v0))::pt lv (wl (ws.map v4))::pt old (wl (cs.map v0))::pt l2 (wl ((j4 x r).map v0))::pt t1 (wn (x.ls.map v0))::pt ow (wl [ut SP,v0 at_,ut d,ut p,ut lv,ut lg])::pt lg (wl lgs)::pt SP (wl ss)::O) H4:=z4;right
   repeat walk_at "sc"
   exact q2 (show("stop":Str)≠"on" by decide+kernel) H4 (z4.sub (by ac_nf))
end
def c9.app {L:List aw}(h:c9 R O ds rs):c9 R (L++O) ds rs:=⟨h.1,λi r e=>by
 obtain⟨a,Δ,e2,p⟩:=h.2 i r e;exact⟨a,_,e2,ae p⟩⟩
def Sep.mv:∀ {L P Δ O:List aw}{H:Hp},Sep (P++(Δ++(L++O))) H->Sep (P++(L++(Δ++O))) H
 | [],_,_,_,_,z=>z
 |A::L,P,Δ,O,H,z=>(Sep.mv (L:=L) (P:=A::P) (Δ:=Δ) (O:=O) (z.pull (ae (ae .e)))).push (ae .e)
abbrev bJ (p:Addr×Rw):V:=ut p.1
abbrev su (R:Rt)(p:Addr×Rw):aw:=mh R p.1 p.2
abbrev oz (p:Addr×Rw):aw:=tu p.1 p.2.tl
def qr {S:List (Addr×Rw)}(h:S.map (·.2)=rs)(ok:∀ r ∈ rs,Rw.ok r):dX (S.reverse.map oz++O) (S.map bJ) rs:=by
 refine⟨by rw[<-h];simp,ok,λi r e=>?_⟩;subst h;rw[im]at e;obtain⟨⟨a,r'⟩,g,rfl⟩:=nl.mp e;obtain⟨Δ,hp⟩:=kE (f:=oz) (x:=(a,r')) (l:=S.reverse) (by have:=cr g;simpa using this);exact⟨a,_,by rw[im,g];rfl,hp O⟩
def AJ {S P:List (Addr×Rw)}(h:∀ p ∈ P,p ∈ S):c9 R (S.reverse.map (su R)++O) (P.map bJ) (P.map (·.2)):=by
 refine⟨by simp,λi r e=>?_⟩;rw[im]at e;obtain⟨⟨a,r'⟩,g,rfl⟩:=nl.mp e;obtain⟨Δ,hp⟩:=kE (f:=su R) (x:=(a,r')) (l:=S.reverse) (by simpa using h _ (cr g));exact⟨a,_,by rw[im,g];rfl,hp O⟩
def wC {m l s b:Addr}{cs:List Int}(ro:Ro K R)(hk:6<=k)(n0:1<=ds.length)(n1:ds.length<=24)(h0:0<=at_)(h1:at_<=ds.length){Δl Δs Δb:List aw}(pl:ah (pt l (wl ds)) O Δl)(ps:ah (cP R s cs ws) O Δs)(pb:ah (aM R b x) O Δb)(hd:Be R O ds)
  (z:Sep (pt m (wp (R.cad 18) dx [])::pt dx (.own m)::O) H) (q:∀ l2 s2 b2 H',Sep (pt m (wp (R.cad 18) dx [("deeds",ut l2),("store",ut s2),("boxes",ut b2),("at",v0 at_)])::pt dx (.own m)::pt l2 (wl ds)::cP R s2 cs ws::aM R b2 x::O) H'->Q wf H'):aa tab R k 46 [ut m,ut l,ut s,ut b,v0 at_] H Q E:=by
 delta cy;right;refine n9 ro nofun n0 n1 z (.j2 pl) (λv hv=>by
  obtain⟨a,r,Δ',e,hp⟩:=hd v hv;exact⟨a,r,_,e,.t (.t hp)⟩) (λH1 z1=>?_)
 right;refine jJ (z1.get (.j2 pl)) ?_;right;refine lA nofun h0 h1 ?_;right;refine tF z1 (z1.get (.j2 pl)) (λl2 H2 z2=>?_);right;rename_i H3 z3;refine ag fN z3 (.j2 (.t ps)) rfl rfl ?_;left;refine vV ro nofun z3 (.j2 (.t ps)) (λs2 H4 z4=>?_);right;rename_i H5 z5;refine ag bb z5 (.j2 (.j2 pb)) rfl rfl ?_;left;refine uP ro nofun z5 (.j2 (.j2 pb)) (λb2 H6 z6=>?_);right;rename_i H7 z7 H8 z8;exact q l2 s2 b2 H8 (z8.sub (by ac_nf))
def yQ {m l s b:Addr}{cs:List Int}(ro:Ro K R)(hk:7<=k)(n0:1<=ds.length)(n1:ds.length<=24)(h0:0<=at_)(h1:at_<=ds.length){Δl Δs Δb:List aw}(pl:ah (pt l (wl ds)) O Δl)(ps:ah (cP R s cs ws) O Δs)(pb:ah (aM R b x) O Δb)(hd:Be R O ds)
  (z:Sep (pt m (wp (R.cad 18) dx [])::pt dx (.own m)::O) H) (q:∀ l2 s2 b2 en H',Sep (g7 R m l2 s2 b2 en at_ ds::cP R s2 cs ws::aM R b2 x::pt en (wl [])::O) H'->Q wf H'):aa tab R k 58 [ut m,ut l,ut s,ut b,v0 at_] H Q E:=by
 delta ck;right;refine wC ro nofun n0 n1 h0 h1 pl ps pb hd z (λl2 s2 b2 H1 z1=>?_);clear z;right;rename_i en H2 z2 H3 z3;exact q l2 s2 b2 en H3 (xA (dx:=dx) (z3.sub (by ac_nf)))
section
variable {h p lv:Addr}{m M:Int}{cs:List Int}{ws:List Str}
def wz {E:St->XK}{u1 u2 u5 u6 u7:Option V}(hk:4<=k)(hm:m<=1099508000000)(c0:1<=cs.length)(c60:cs.length<=60)(hc:aR cs)(hl:cs.length=ws.length)(hw:cI ws)(z:Sep (hand h m::pt p (wl (cs.map v0))::pt lv (wl (ws.map v4))::O) H)
  (q:∀ ow SP d lg at_ x (S:List (Addr×Rw)) H',Bx.ok x->1<=S.length->S.length<=24->(∀ r ∈ S.map (·.2),Rw.ok r)->0<=at_->at_<=(S.length:Int)->Sep (oA ow SP d p lv lg at_ x cs ws [] (pt SP (wl (S.map bJ))::hand h (m+500)::(S.reverse.map oz++O))) H'->D.rt (ut ow) H'):
  wB (fv 3 du.body) ⟨tab,R,aa tab R (k-1),true⟩ D E [some (ut h),u1,u2,some (ut p),some (ut lv),u5,u6,u7] H:=by
 right;refine ET nofun z nofun c0 c60 hc (λd x H1 hx z1=>?_);clear z;walk_at "gd";rename_i l1 H2 z2 r1 H3 r10 r11 z3;obtain⟨v,e2,N,rfl,N0,N1⟩:=gb (xs:=[v0 3,v0 8,v0 24]) (P:=inR 1 24) (r:=r1) r10 (by simpa using r11) (II (.mk (by decide) (by decide)) (.mk (by decide) (by decide)) (.mk (by decide) (by decide)));refine az (by grind) e2 ?_;right;refine qZ nofun z3 nofun nofun nofun (λr2 H4 r20 r21 z4=>?_);clear z1 z2 z3;have z5:Sep (hand h (m+40)::ay d x::pt p (wl (cs.map v0))::pt lv (wl (ws.map v4))::O) H4:=(aq (n:=m+40) z4 nofun).sub (by ac_nf);clear z4;right;refine mP (n:=(1+r2).toNat) nofun (λD' ys H=>∃ S:List (Addr×Rw),ys=S.map bJ/\(∀ r ∈ S.map (·.2),Rw.ok r)/\Sep (pt D' (wl ys)::hand h (m+40+10*((ys.length:Nat):Int))::ay d x::pt p (wl (cs.map v0))::pt lv (wl (ws.map v4))::(S.reverse.map oz++O)) H) (λD hD=>⟨[],rfl,λp hp=>absurd hp (by simp),(aq ((z5.new (o:=wl []) hD).pull .k1) (by simp)).pull .k1⟩) (λD' ys H hl2 hI=>?_) (λSP ys H hl2 hI=>?_)
 .obtain⟨S,e,ok,hs⟩:=hI;right;rw[ce];refine Ax nofun (hs.pull .k1) nofun nofun nofun (λt r H7 o hs7=>?_);have hs8:=(hs7.pull (A:=pt D' (wl ys)) (by symm)).set (o':=wl (ys++[ut t])) rfl;refine rm.mk (hs7.get (by symm)) nofun ⟨S++[(t,r)],by rw[e];simp[bJ],λp hp=>?_,?_⟩
  .rw[dL]at hp;rcases mem_append.mp hp with hp|hp
   .exact ok p hp
   .rw[mem_singleton.mp hp];exact o
  .rw[List.reverse_append,dL,jp];show Sep (pt D' _::hand h _::ay d x::pt p (wl (cs.map v0))::pt lv (wl (ws.map v4))::tu t r.tl::(S.reverse.map oz++O)) _;exact(aq (n:=m+40+10*(((ys++[ut t]).length:Nat):Int)) (hs8.pull (A:=hand h _) (by symm)) (by rw[ci,f8];omega)).sub (by ac_nf)
 obtain⟨S,rfl,okS,hs6⟩:=hI;rw[ce]at hl2 hs6;have z7:Sep (hand h (m+300)::pt SP (wl (S.map bJ))::ay d x::pt p (wl (cs.map v0))::pt lv (wl (ws.map v4))::(S.reverse.map oz++O)) H:=aq (hs6.pull .k1) nofun;clear z5 hs6;walk_at "gd";rename_i r3 H8 r30 r31 z8 r4 H9 r40 r41 z9 lg Ha za ow Hb zb;rw[ce]at r41;have hat:0<=r3 / 3*r4/\r3 / 3*r4<=(S.length:Int):=by
  rcases(by omega:r3 / 3=0\/r3 / 3=1) with e|e<;>rw[e]<;>omega
 refine q ow SP d lg _ x S Hb hx nofun nofun okS hat.1 hat.2 ?_;have zc:Sep (hand h (m+500)::pt ow (wl [ut SP,v0 (r3 / 3*r4),ut d,ut p,ut lv,ut lg])::ay d x::pt p (wl (cs.map v0))::pt lv (wl (ws.map v4))::pt lg (wl [])::pt SP (wl (S.map bJ))::(S.reverse.map oz++O)) Hb:=(aq (n:=m+500) (zb.pull (A:=hand h _) (by symm)) nofun).sub (by ac_nf);exact zc.sub (by ac_nf)
end
def FN {M:Int}{sh:Bool}(hk:5<=k)(hm:m<=1099500000000)(M0:1<=M)(M1:M<=60)(z:Sep (hand h m::O) H)
  (q:∀ ow SP d p lv lg at_ x cs ws (S:List (Addr×Rw)) H',1<=cs.length->cs.length<=60->aR cs->cs.length=ws.length->cI ws->Bx.ok x->1<=S.length->S.length<=24->(∀ r ∈ S.map (·.2),Rw.ok r)->0<=at_->at_<=(S.length:Int)->(sh=false->ws=sn cs.length ("open":Str))->Sep (oA ow SP d p lv lg at_ x cs ws [] (pt SP (wl (S.map bJ))::hand h (m+1000)::(S.reverse.map oz++O))) H'->Q (ut ow) H'):aa tab R k 103 [ut h,v0 M,.bl sh] H Q E:=by
 delta du;right;refine Aj nofun z nofun M0 M1 (λp cs H1 c0 c1 hc z1=>?_);clear z;right;rename_i l1 H2 z2 lv H3 z3;have fin:∀ {D:Ends}{lv:Addr}{ws:List Str}{H:Hp}{u5 u6 u7:Option V},D.rt=Q->cs.length=ws.length->cI ws->(sh=false->ws=sn cs.length ("open":Str))->Sep (hand h (m+400)::pt p (wl (cs.map v0))::pt lv (wl (ws.map v4))::O) H->wB (fv 3 du.body) ⟨tab,R,aa tab R (k-1),true⟩ D (λ_=>E) [some (ut h),some (v0 M),some (.bl sh),some (ut p),some (ut lv),u5,u6,u7] H:=λ{D lv ws H u5 u6 u7} hD hl hw ho zz=>wz nofun nofun c0 nofun hc hl hw zz (λow SP d lg at_ x S H' hx s0 s1 okS a0 a1 y=>by
  rw[hD];exact q ow SP d p lv lg at_ x cs ws S H' c0 nofun hc hl hw hx s0 s1 okS a0 a1 ho ((aq (n:=m+1000) (y.pull (A:=hand h _) (by symm)) nofun).sub (by ac_nf)))
 cases sh with
 |true=>
  refine aG rfl ?_;right;rw[ce];refine vQ nofun nofun c0 nofun (z3.pull (A:=hand h (m+300)) (by symm)) (λlv2 ws H4 el hw z4=>?_);left;exact fin rfl el.symm hw (λe=>nomatch e) ((aq (n:=m+400) (z4.pull .k1) nofun).sub (by ac_nf))
 |false=>
  refine ar rfl ?_;have e:(sn (((cs.map v0).length:Int)).toNat [v4 "open"]).flatten=(sn cs.length ("open":Str)).map v4:=by
   rw[ce,re,map_replicate]
   induction cs.length with
   |zero=>rfl
   |succ n ih=>rw[replicate_succ,replicate_succ,flatten_cons,ih];rfl
  rw[e]at z3;exact fin (lv:=lv) (ws:=sn cs.length "open") rfl (by rw[length_replicate]) (λw hw=>by rw[List.eq_of_mem_replicate hw];decide+kernel) (λ_=>rfl) ((aq (n:=m+400) (z3.pull (A:=hand h _) (by symm)) nofun).sub (by ac_nf))
def yA {te:TE}{SP:Addr}(ro:Ro K R)(hk:5<=k)(n1:rs.length<=24)(hs:dX O ss rs)(hp:ah (pt SP (wl ss)) O Δ)(z:Sep O H)(hte:∀ {v:V}{H:Hp}{Q:VK},aa tab R k 94 [v] H Q (λ_ _=>False)->te (some v::rest) H Q)
  (q:∀ DE (L:List (Addr×Rw)) H',L.map (·.2)=rs->Sep (pt DE (wl (L.map bJ))::(L.reverse.map (su R)++O)) H'->Q (ut DE) H'):wa te (Cp R.K SP) (none::rest) H Q:=by
 have hsl:=hs.1;refine xI (xs:=ss) nofun (λD ys H=>∃ L:List (Addr×Rw),ys=L.map bJ/\L.map (·.2)=rs.take ys.length/\Sep (pt D (wl ys)::(L.reverse.map (su R)++O)) H) (λD ys H hI=>?_) (λD hD=>⟨[],rfl,rfl,z.new (o:=wl []) hD⟩) (λD ys y H hy hI=>?_) (λDE ys H hl2 hI=>?_)
 .obtain⟨L,_,_,hs⟩:=hI;exact bj.of (hs.get (.t (ae hp)))
 .obtain⟨L,e,e2,z6⟩:=hI;have hyl:=(sw.mp hy).1;have er:rs[ys.length]? =some (rs[ys.length]'nofun):=li _;generalize rs[ys.length]'nofun=r at er;obtain⟨t,Δ,e3,pp⟩:=hs.2.2 _ _ er;rw[hy]at e3;cases e3;refine hte (wA r ro nofun (hs.2.1 _ (cr er)) (Sep.F4 (z6.jG (.t (ae pp))) z6) (λde H7 z7=>?_));have z8:=(z7.pull (A:=pt D (wl ys)) (by symm)).set (o':=wl (ys++[ut de])) rfl;refine rm.mk (z7.get (by symm)) nofun ⟨L++[(de,r)],by rw[e];simp[bJ],?_,?_⟩
  .rw[dL,e2,ci,f8,take_succ,er]
   rfl
  .rw[List.reverse_append,dL,jp];show Sep (pt D _::mh R de r::(L.reverse.map (su R)++O)) _;exact z8.sub (by ac_nf)
 obtain⟨L,rfl,e2,z6⟩:=hI;refine q DE L H ?_ z6;rw[e2,hl2,hs.1];exact take_of_length_le (pi _)
section
variable {ow SP d p lv lg:Addr}{at_:Int}{x:Bx}{cs:List Int}{ws:List Str}{S:List (Addr×Rw)}
end
def Sep.cut {A B:List aw}(z:Sep (A++(B++O)) H):Sep (A++O) H:=by
 induction B with
 |nil=>exact z
 |cons X B ih=>exact ih (z.pull (ae .e)).drop
def tZ {b:Addr}{ys:List V}(ha:H a=some (wn xs))(hb:H b=some (wn ys))(hl:xs.length=ys.length)(h:∀ (j:Nat) (x y:V),xs[j]? =some x->ys[j]? =some y->dO K H (n+1) x y true):dO K H (n+2) (ut a) (ut b) true:=by
 have z:=dO.tt (K:=K) (e:=λ_=>true) (bg.of ha) (bg.of hb) h
 rwa [show((List.range (min xs.length ys.length)).all (λ_=>true)&&xs.length ==ys.length)=true by simp[hl]]at z
def uk {b:Addr}{ys:List V}(ha:H a=some (wl xs))(hb:H b=some (wl ys))(hl:xs.length=ys.length)(h:∀ (j:Nat) (x y:V),xs[j]? =some x->ys[j]? =some y->dO K H (n+1) x y true):dO K H (n+2) (ut a) (ut b) true:=by
 have z:=dO.ll (K:=K) (e:=λ_=>true) (bj.of ha) (bj.of hb) hl h
 first
  |rwa [show((List.range xs.length).all (λ_=>true))=true by simp]at z
  |simpa[hl] using z
def tW (h:aT v=true):dO K H n v v true:=by
 have z:=dO.flat (K:=K) (H:=H) (n:=n) h h
 rwa [eT h]at z
def uj {b:Addr}(ha:H a=some (wn (ns.map v0)))(hb:H b=some (wn (ns.map v0))):dO K H (n+2) (ut a) (ut b) true:=tZ ha hb rfl λj x y e1 e2=>by
 rw[e1]at e2;cases e2;rw[im]at e1;obtain⟨i,_,rfl⟩:=nl.mp e1;exact tW rfl
def Iz {e f:cA}(h:lj e=lj f)(z:Sep (aU e::aU f::O) H):dO K H 4 (aZ e) (aZ f) true:=by
 obtain⟨ts,z1⟩:=Bh z;obtain⟨us,z2⟩:=Bh (z1.pull (A:=aU f) (.t .k3));have c1:=cM.of (z1.pull (A:=cM ts e.c0 e.g) .k3);have c2:=cM.of (z2.pull (A:=cM us f.c0 f.g) .k3);have e1:e.at_=f.at_:=congrArg (·.1) h;have e2:e.x=f.x:=congrArg (·.2.1) h;have e3:e.c0=f.c0:=congrArg (·.2.2.1) h;have e4:e.g=f.g:=congrArg (·.2.2.2) h;have t1:=z1.atT;have t2:=z2.atT;have x1:=z1.jG (t:=e.t1) .k1;have x2:=z2.jG (t:=f.t1) .k1;have l1:=z1.get (a:=e.lc) .k2;have l2:=z2.get (a:=f.lc) .k2;rw[e1]at t1;rw[e2]at x1;rw[e3,e4]at c1;refine tZ t1 t2 rfl λj x y f1 f2=>?_
 match j,f1,f2 with
 |0,f1,f2=>cases f1;cases f2;exact tW rfl
 |1,f1,f2=>cases f1;cases f2;exact uj x1 x2
 |2,f1,f2=>
  cases f1;cases f2;refine uk l1 l2 (by rw[ce,ce,c1.1,c2.1]) λi v w g1 g2=>?_
  rw[im]at g1 g2;obtain⟨a,ha,rfl⟩:=nl.mp g1;obtain⟨b,hb,rfl⟩:=nl.mp g2;have hlt:=(sw.mp ha).1;have hg:f.g[i]? =some (f.g[i]'(by rw[<-c1.1];exact hlt)):=li _;have q1:=c1.2 i a _ ha hg;have q2:=c2.2 i b _ hb hg;exact uj (ns:=[_,_,_]) q1 q2
def zq {D lg:Addr}{hs fs:List cA}(e:hs.map lj=fs.map lj)(hD:H D=some (wl (hs.map aZ)))(hL:H lg=some (wl (fs.map aZ)))(hp:∀ {i:Nat}{a b:cA},hs[i]? =some a->fs[i]? =some b->∃ Δ,Sep (aU a::aU b::Δ) H):dO K H 5 (ut D) (ut lg) true:=by
 have hl:hs.length=fs.length:=by
  have:=congrArg List.length e
  rwa [ce,ce]at this
 refine uk hD hL (by rw[ce,ce,hl]) λj x y f1 f2=>?_
 rw[im]at f1 f2;obtain⟨a,ha,rfl⟩:=nl.mp f1;obtain⟨b,hb,rfl⟩:=nl.mp f2;obtain⟨Δ,z⟩:=hp ha hb;refine Iz ?_ z;have h2:(hs.map lj)[j]? =(fs.map lj)[j]? :=by rw[e]
 rw[im,im,ha,hb]at h2;exact Option.some.inj h2
section
variable {m l s b en ow SP d p lv lg:Addr}{at_:Int}{ds ss lgs:List V}{x:Bx}{cs:List Int}{ws:List Str}{es fs:List cA}
def pV (hk:1<=k)(z:Sep (oA ow SP d p lv lg at_ x cs ws lgs O) H)(q:∀ t t1 l1 H',Sep (pt t (wn [v0 at_,ut t1,ut l1])::pt l1 (wl (cs.map v0))::pt t1 (wn (x.ls.map v0))::oA ow SP d p lv lg at_ x cs ws lgs O) H'->Q (ut t) H'):aa tab R k 105 [ut ow] H Q E:=by
 delta gx;right;refine pY z (z.get .k1) (λt1 H1 g z1=>?_);rw[qg]at z1;have z1:Sep (pt t1 (wn (x.ls.map v0))::oA ow SP d p lv lg at_ x cs ws lgs O) H1:=z1;clear z;right;rename_i l1 H2 z2 t H3 z3;exact q t t1 l1 H3 z3
end
abbrev AF (o:Out):Prop:=∀ r x' cs',o=.on r x' cs'->aR cs'
section
variable {x x':Bx}{cs cs':List Int}{ws:List Str}{r:Rw}{rs:List Rw}{n at_:Int}
def EN (hx:x.ok)(hc:aR cs):AF (bK wd x cs ws):=by
 have hs:=hx.2.2.2.2.1;have sm:∀ {r:Int}{y:Bx},AF (.on r y cs):=λ{r y} r' x' cs' e=>by cases e;exact hc
 have no:∀ {d:Str}{c:Int},AF (.no d c):=λ{d c} r' x' cs' e=>nomatch e
 have g1:∀ {r:Int}{y:Bx}{j:Nat}{v:Int},0<=v/\v<=1000000000->AF (.on r y (cs.set j v)):=λ{r y j v} h r' x' cs' e=>by cases e;exact cT hc h.1 h.2
 cases wd
 .exact aj (λ_=>sm) λ_=>gO (λ_ _ _=>no) λ_ _=>g1 (dF hc)
 .exact aj (λ_=>sm) λ_=>aj (λ_=>g1 hs) λ_=>no
 .exact aj (λ_=>sm) λ_=>aj (λ_=>aj (λ_=>sm) λ_=>sm) λ_=>no
 .exact aj (λ_=>sm) λ_=>aj (λ_=>aj (λ_=>aj (λ_=>sm) λ_=>sm) λ_=>no) λ_=>no
 .exact aj (λ_=>sm) λ_=>aj (λ_=>gO (λ_ _ _=>no) λ_ _=>g1 (dF hc)) λ_=>gO (λ_ _ _=>no) λ_ _=>g1 (dF hc)
 .exact aj (λ_=>sm) λ_=>aj (λ_=>sm) λ_=>aj (λ_=>aj (λ_=>aj (λ_=>aj (λ_=>λr' x' cs' e=>by cases e;exact cT (cT hc (dF hc).1 (dF hc).2) (dF hc).1 (dF hc).2) λ_=>no) λ_=>no) λ_=>no) λ_=>no
def Bi (hx:x.ok)(hl:ws.length<=60)(hc:aR cs)(h:cu x cs ws r=.on n x' cs'):x'.ok/\aR cs':=by
 cases r with
 |hop m o=>cases h;exact⟨hx,hc⟩
 |sp s=>
  have gv:∀ b i,gh (aX x cs b i)=.on n x' cs'->x'.ok/\aR cs':=λb i h=>by
   unfold aX at h
   split at h
   .rename_i g;cases h;exact⟨yp g hx,hc⟩
   .cases h
  cases s with
  |set b i=>exact gv _ _ h
  |add b i=>exact gv _ _ h
  |take b c=>exact gv _ _ h
  |read b=>
   have h:gh (if ai ws "look" x.h=true then aX x cs b (gt cs x.h) else .no "look" x.h)=.on n x' cs':=h
   split at h
   .exact gv _ _ h
   .cases h
  |write b=>
   have h:gh (if dP (v0 (x.g b))=true then(if ai ws "put" x.t=true then .on x (cs.set x.t.toNat (x.g b)) else .no "put" x.t) else .nf b (x.g b))=.on n x' cs':=h
   split at h
   .rename_i g;have g:(decide (0<=x.g b)&&decide (x.g b<=1000000000))=true:=g;have g:0<=x.g b/\x.g b<=1000000000:=by simpa using g
    split at h
    .cases h;exact⟨hx,cT hc g.1 g.2⟩
    .cases h
   .cases h
 |lg w=>
  have h:ofM (bK w x cs ws)=.on n x' cs':=h;cases e:bK w x cs ws with
  |on r y c=>rw[e]at h;cases h;exact⟨(oq e).1.2.2 hx hl,EN hx hc _ _ _ e⟩
  |no d c=>rw[e]at h;cases h
def IB (hx:x.ok)(hl:ws.length<=60)(hc:aR cs):(mS rs at_ x cs ws).x.ok/\aR (mS rs at_ x cs ws).cs:=by
 unfold mS;cases e:rs[at_.toNat]? with
 |none=>exact⟨hx,hc⟩
 |some r=>
  dsimp only;cases ho:cu x cs ws r with
  |on n x' cs'=>exact Bi hx hl hc ho
  |_=>exact⟨hx,hc⟩
end
def rg {t:Addr}(ro:Ro K R)(hk:5<=k)(hx:x.ok)(z:Sep O H)(ht:H t=some (wn (x.ls.map v0)))(q:∀ b H',Sep (aM R b x::O) H'->Q (ut b) H'):aa tab R k 17 [ut t] H Q E:=by
 obtain⟨h,t',l,w,s,m⟩:=x;delta kM;right;refine oM ht rfl ?_;right;refine oM ht rfl ?_;right;refine oM ht rfl ?_;right;refine oM ht rfl ?_;right;refine oM ht rfl ?_;right;refine oM ht rfl ?_;right;intro b dx g1 g2 g3;exact zr ro nofun hx (hU z g1 g2 g3) (λH2 z2=>⟨rfl,q b H2 z2⟩)
abbrev Ik (M:JR):Int×Bx×List Int:=(M.at_,M.x,M.cs)
abbrev Cn (rs:List Rw)(ws:List Str)(ss:List (Int×Bx×List Int))(ds:List (Int×Bx×List Int×List (Int×Int))):Prop:=ss.length=ds.length+1/\∀ (i:Nat) s,ss[i]? =some s->((0<=s.1/\s.1<=(rs.length:Int))/\s.2.1.ok/\s.2.2.length=ws.length/\aR s.2.2)/\∀ e,ds[i]? =some e->e=(s.1,s.2.1,s.2.2,gM rs s.1 s.2.1 s.2.2 ws)/\(mS rs s.1 s.2.1 s.2.2 ws).w="on"/\ss[i+1]? =some (Ik (mS rs s.1 s.2.1 s.2.2 ws))
section
variable {m l s b en:Addr}{at_:Int}{ds:List V}{rs:List Rw}{x:Bx}{cs:List Int}{ws:List Str}{ss:List (Int×Bx×List Int)}{dd:List (Int×Bx×List Int×List (Int×Int))}{lo N:Nat}
def ES (ro:Ro K R)(hk:12<=k)(hC:Cn rs ws ss dd)(hlo:ss[lo]? =some (at_,x,cs))(hN:lo+N<=dd.length)(hN1:N<=1000)(hd:c9 R O ds rs)(z:Sep (g7 R m l s b en at_ ds::cP R s cs ws::aM R b x::pt en (wl [])::O) H)
  (q:∀ t at_ x cs (es:List cA) H',ss[lo+N]? =some (at_,x,cs)->es.map lj=(dd.drop lo).take N->Sep (g7 R m l s b en at_ ds::cP R s cs ws::aM R b x::pt en (wl (es.map aZ))::(es.map aU++O)) H'->Q (ut t) H'):aa tab R k 50 [ut m,v0 (N:Int)] H Q E:=by
 delta fJ;have e1:=hd.1;right;refine⟨λμ U H=>∃ j:Nat,∃ at_ x cs,∃ es:List cA,μ=N-j/\j<=N/\ss[lo+j]? =some (at_,x,cs)/\es.map lj=(dd.drop lo).take j/\es.length=j/\U=[some (ut m),some (v0 (N:Int)),some (v0 (j:Int))]/\Sep (g7 R m l s b en at_ ds::cP R s cs ws::aM R b x::pt en (wl (es.map aZ))::(es.map aU++O)) H,⟨N,0,at_,x,cs,[],rfl,Nat.zero_le _,hlo,rfl,rfl,rfl,z⟩,?_⟩;rintro μ U H ⟨j,at2,x2,cs2,es,rfl,hj,hs,he,hel,rfl,z2⟩;obtain⟨⟨⟨a0,a1⟩,_,_,_⟩,hnx⟩:=hC.2 _ _ hs;right;refine aD (λg=>?_) (λg=>?_)
 .have hj2:j<N:=by omega
  have ed:dd[lo+j]? =some (dd[lo+j]'nofun):=li _;generalize dd[lo+j]'nofun=e at ed;obtain⟨ee,hon,hnxt⟩:=hnx e ed;right;refine ag kJ z2 .e rfl rfl ?_;left;refine Bo (rs:=rs) ro nofun a0 (by show at2<=_;rw[e1];exact a1) (by rw[ce];omega) hd.app z2 (λ_ te t1 lc H3 z3=>?_) (λhno=>absurd hon hno);clear z z2;right;refine⟨λU H=>∃ at_ x cs,∃ es:List cA,ss[lo+(j+1)]? =some (at_,x,cs)/\es.map lj=(dd.drop lo).take (j+1)/\es.length=j+1/\U=[some (ut m),some (v0 (N:Int)),some (v0 ((j+1:Nat):Int))]/\Sep (g7 R m l s b en at_ ds::cP R s cs ws::aM R b x::pt en (wl (es.map aZ))::(es.map aU++O)) H,?_,?_⟩
  .rintro σ' H' ⟨a,y,c,es,b1,b2,b3,rfl,b4⟩;exact⟨N-(j+1),by omega,j+1,a,y,c,es,rfl,by omega,b1,b2,b3,rfl,b4⟩
  .right;refine⟨_,_,_,es++[⟨te,t1,lc,at2,x2,cs2,gM rs at2 x2 cs2 ws⟩],hnxt,?_,?_,rfl,?_⟩
   .rw[dL,he,take_succ,List.getElem?_drop,ed,ee]
    rfl
   .rw[ci,hel]
    rfl
   .have z4:=Sep.push (.j2 (.j2 dh)) z3;rw[dL (f:=aZ)];exact z4
 .have hjN:j=N:=by omega
  subst hjN;refine ar rfl ?_;right;refine ag kJ z2 .e rfl rfl ?_;left;refine t4 nofun z2 .e ?_;cases decide (at2=ds.length) with
  |true=>
   right;rename_i t H3 z3;exact q t _ _ _ es H3 hs he z3.drop
  |false=>
   right;refine aD (λg2=>?_) (λg2=>absurd (Int.le_refl _) g2);right;rename_i t H3 z3;exact q t _ _ _ es H3 hs he z3.drop
end
structure SE where
 t:Addr
 t1:Addr
 l1:Addr
 s:Int×Bx×List Int
abbrev zU (e:SE):V:=ut e.t
abbrev l6 (e:SE):aw:=bx λ_:Unit=>[pt e.t (wn [v0 e.s.1,ut e.t1,ut e.l1]),tu e.t1 (e.s.2.1.ls.map v0),pt e.l1 (wl (e.s.2.2.map v0))]
def wk {e:SE}(z:Sep (l6 e::O) H):Sep (pt e.t (wn [v0 e.s.1,ut e.t1,ut e.l1])::tu e.t1 (e.s.2.1.ls.map v0)::pt e.l1 (wl (e.s.2.2.map v0))::O) H:=let⟨_,z⟩:=ki z;z
def Fd {e:SE}(z:Sep (pt e.t (wn [v0 e.s.1,ut e.t1,ut e.l1])::tu e.t1 (e.s.2.1.ls.map v0)::pt e.l1 (wl (e.s.2.2.map v0))::O) H):Sep (l6 e::O) H:=jr () z
def ub {xs ys:List Int}(hl:xs.length=ys.length):(List.range xs.length).all (λj=>decide (xs[j]? =ys[j]?))=decide (xs=ys):=by
 rw[Bool.eq_iff_iff];simp only[all_eq_true,mem_range,decide_eq_true_eq];constructor
 .intro h;refine List.ext_getElem? λj=>?_
  by_cases hj:j<xs.length
  .exact h j hj
  .rw[getElem?_eq_none nofun,getElem?_eq_none nofun]
 .rintro rfl j _
  rfl
def yF {xs ys:List Int}{j:Nat}{x y:V}(f1:(xs.map v0)[j]? =some x)(f2:(ys.map v0)[j]? =some y):dO K H n x y (decide (xs[j]? =ys[j]?)):=by
 rw[im]at f1 f2;obtain⟨i,e1,rfl⟩:=nl.mp f1;obtain⟨k,e2,rfl⟩:=nl.mp f2;have z:=dO.flat (K:=K) (H:=H) (n:=n) (x:=v0 i) (y:=v0 k) rfl rfl;rw[e1,e2]
 rwa [show cH (v0 i) (v0 k)=decide (some i=some k) from by show(i ==k)=_;rw[Bool.eq_iff_iff];simp]at z
def Ey {b:Addr}{xs ys:List Int}(ha:H a=some (wl (xs.map v0)))(hb:H b=some (wl (ys.map v0)))(hl:xs.length=ys.length):dO K H 2 (ut a) (ut b) (decide (xs=ys)):=by
 have z:=dO.ll (K:=K) (n:=0) (e:=λj=>decide (xs[j]? =ys[j]?)) (bj.of ha) (bj.of hb) (by simpa using hl) (λj x y f1 f2=>yF f1 f2);rw[ce,ub hl]at z;exact z
def EY {b:Addr}{xs ys:List Int}(ha:H a=some (wn (xs.map v0)))(hb:H b=some (wn (ys.map v0)))(hl:xs.length=ys.length):dO K H 2 (ut a) (ut b) (decide (xs=ys)):=by
 have z:=dO.tt (K:=K) (n:=0) (e:=λj=>decide (xs[j]? =ys[j]?)) (bg.of ha) (bg.of hb) (λj x y f1 f2=>yF f1 f2);rw[ce,ce,<-hl,Nat.min_self,ub hl,show(xs.length ==xs.length)=true by simp,Bool.and_true]at z;exact z
abbrev sEq (s s':Int×Bx×List Int):Bool:=decide (s.1=s'.1)&&(decide (s.2.1.ls=s'.2.1.ls)&&(decide (s.2.2=s'.2.2)&&true))
variable {s:Int×Bx×List Int}
def kK:sEq s s=true:=by
 unfold sEq;simp
def wD {s':Int×Bx×List Int}:sEq s s'=sEq s' s:=by
 unfold sEq;rw[Bool.eq_iff_iff];simp only[Bool.and_true,nb,decide_eq_true_eq];exact⟨λ⟨a,b,c⟩=>⟨a.symm,b.symm,c.symm⟩,λ⟨a,b,c⟩=>⟨a.symm,b.symm,c.symm⟩⟩
def xa {t t1 l1 t' t1' l1':Addr}{s':Int×Bx×List Int}(h1:H t=some (wn [v0 s.1,ut t1,ut l1]))(h2:H t'=some (wn [v0 s'.1,ut t1',ut l1']))(a1:H t1=some (wn (s.2.1.ls.map v0)))(a2:H t1'=some (wn (s'.2.1.ls.map v0)))(b1:H l1=some (wl (s.2.2.map v0)))(b2:H l1'=some (wl (s'.2.2.map v0)))(hl:s.2.2.length=s'.2.2.length):dO K H 3 (ut t) (ut t') (sEq s s'):=by
 have z:=dO.tt (K:=K) (n:=1) (e:=λj=>match j with
  |0=>decide (s.1=s'.1)
  |1=>decide (s.2.1.ls=s'.2.1.ls)
  |_=>decide (s.2.2=s'.2.2)) (bg.of h1) (bg.of h2) (λj x y f1 f2=>by
  match j,f1,f2 with
  |0,f1,f2=>
   cases f1;cases f2;have z:=dO.flat (K:=K) (H:=H) (n:=2) (x:=v0 s.1) (y:=v0 s'.1) rfl rfl
   rwa [show cH (v0 s.1) (v0 s'.1)=decide (s.1=s'.1) from by show(s.1 ==s'.1)=_;rw[Bool.eq_iff_iff];simp]at z
  |1,f1,f2=>cases f1;cases f2;exact EY a1 a2 rfl
  |2,f1,f2=>cases f1;cases f2;exact Ey b1 b2 hl)
 rwa [show((List.range (min [v0 s.1,ut t1,ut l1].length [v0 s'.1,ut t1',ut l1'].length)).all _&&[v0 s.1,ut t1,ut l1].length ==[v0 s'.1,ut t1',ut l1'].length)=sEq s s' from Bool.and_true _]at z
def dX.app (h:dX O ss rs):dX (Δ++O) ss rs:=⟨h.1,h.2.1,λi r e=>by
 obtain⟨a,_,e2,p⟩:=h.2.2 i r e;exact⟨a,_,e2,ae p⟩⟩
noncomputable abbrev iU (R:Rt)(L S:List (Addr×Rw))(O:List aw):List aw:=L.reverse.map (su R)++(S.reverse.map oz++O)
section
variable {DE HD:Addr}{S L:List (Addr×Rw)}{rs:List Rw}{ws:List Str}{ss:List (Int×Bx×List Int)}{dd:List (Int×Bx×List Int×List (Int×Int))}{lo N:Nat}{f g:SE}{hs:List cA}{Δf Δg:List aw}
def DS (ro:Ro K R)(hk:14<=k)(hC:Cn rs ws ss dd)(how:ws=sn ws.length ("open":Str)) (w0:1<=ws.length) (w60:ws.length<=60) (hf:ss[lo]? =some f.s) (hN:lo+N<=dd.length) (hN1:N<=900) (he:hs.map lj=(dd.drop lo).take N) (hln:hs.length=N) (hg:g.s.2.2.length=ws.length) (eL:L.map (·.2)=rs) (n0:1<=L.length) (n1:L.length<=24) (pf:ah (l6 f) O Δf) (pg:ah (l6 g) O Δg) (z:Sep (pt HD (wl (hs.map aZ))::pt DE (wl (L.map bJ))::(hs.map aU++iU R L S O)) H)
  (q:∀ s H',ss[lo+N]? =some s->Sep (pt HD (wl (hs.map aZ))::pt DE (wl (L.map bJ))::(hs.map aU++iU R L S O)) H'->Q (.bl (sEq s g.s)) H'):aa tab R k 62 [ut DE,ut f.t,ut HD,ut g.t] H Q E:=by
 delta i6;obtain⟨⟨⟨a0,a1⟩,hx,hl,hc⟩,_⟩:=hC.2 _ _ hf;rw[<-eL,ce]at a1;have z1:=wk (z.pull (A:=l6 f) (.j2 (ae (ae (ae pf)))));have hrd:∀ {O:List aw},c9 R (hs.map aU++iU R L S O) (L.map bJ) rs:=λ{O}=>eL▸(AJ (R:=R) (λa h=>h)).app
 clear z;right;intro st dx g1 g2 g3;refine uy ro nofun nofun nofun hc (hU z1 g1 g2 g3) .k2 (λH1 z2=>⟨rfl,?_⟩);rw[hl,<-how]at z2;clear z1;right;refine rg ro nofun hx z2 (z2.jG .k2) (λb H2 z3=>?_);clear z2;right;intro m dm g1 g2 g3;refine yQ ro nofun (by rw[ce];exact n0) (by rw[ce];exact n1) a0 (by rw[ce];exact a1) (.j2 (.j2 .k2)) .k1 .e (by exact hrd.more.more.more.more.more.more.more.all) (hU z3 g1 g2 g3) (λl2 s2 b2 en H3 z4=>⟨rfl,?_⟩);clear z3;have z5:Sep (g7 R m l2 s2 b2 en f.s.1 (L.map bJ)::cP R s2 f.s.2.2 ws::aM R b2 f.s.2.1::pt en (wl [])::pt HD (wl (hs.map aZ))::pt DE (wl (L.map bJ))::(hs.map aU++iU R L S O)) H3:=Sep.push (.j2 (.j2 (.j2 (ae (ae (ae pf)))))) (Fd (z4.sub (by ac_nf)));clear z4;right;refine ag kJ z5 .e rfl rfl ?_;right;rw[ce,hln];refine ES ro nofun hC hf hN nofun hrd.more.more z5 (λt at' x' cs' es H4 hs' he' z6=>?_);clear z5;have hel:es.length=N:=by
  have:=congrArg List.length (he'.trans he.symm);rw[ce,ce]at this
  omega
 have hl2:=(hC.2 _ _ hs').1.2.2.1;right;refine ag kJ z6 .e rfl rfl ?_;left;have z6:Sep (g7 R m l2 s2 b2 en at' (L.map bJ)::pt en (wl (es.map aZ))::cP R s2 cs' ws::aM R b2 x'::(es.map aU++(pt HD (wl (hs.map aZ))::pt DE (wl (L.map bJ))::(hs.map aU++iU R L S O)))) H4:=z6.sub (by ac_nf);have z7:Sep (g7 R m l2 s2 b2 en at' (L.map bJ)::pt en (wl (es.map aZ))::(es.map aU++(cP R s2 cs' ws::aM R b2 x'::pt HD (wl (hs.map aZ))::pt DE (wl (L.map bJ))::(hs.map aU++iU R L S O)))) H4:=Sep.mv (P:=[_,_]) (Δ:=[_,_]) (L:=es.map aU) z6;clear z6;refine El nofun nofun z7 (λD h2 H5 eh z8=>?_);clear z7;right;refine sP (zq (eh.trans (he'.trans he.symm)) z8.at (z8.get (a:=HD) (.j2 (.t (ae (ae .k2))))) (λ{i a c} ha hc=>⟨_,(z8.pull (A:=aU c) (.j2 (.t (ae (ae (.j2 (.j2 (aF hc)))))))).pull (A:=aU a) (.j2 (.j2 (aF ha)))⟩)) (by decide) (λe=>Sep.ne (z8.pull (A:=pt HD (wl (hs.map aZ))) (.j2 (.t (ae (ae .k2))))) e.symm) ?_;refine aG rfl ?_;have z9:Sep (g7 R m l2 s2 b2 en at' (L.map bJ)::cP R s2 cs' ws::aM R b2 x'::pt D (wl (h2.map aZ))::pt en (wl (es.map aZ))::(h2.map aU++(es.map aU++(pt HD (wl (hs.map aZ))::pt DE (wl (L.map bJ))::(hs.map aU++iU R L S O))))) H5:=by
  have y1:=z8.pull (A:=aM R b2 x') (.j2 (.t (ae (ae .k1))));have y2:=y1.pull (A:=cP R s2 cs' ws) (.j2 (.j2 (ae (ae .e))));exact y2.sub (by ac_nf)
 clear z8;right;refine ag kJ z9 .e rfl rfl ?_;left;refine ze ro nofun z9 (λt t1 l1 H6 za=>?_);clear z9;have zb:=wk (za.pull (A:=l6 g) (.j2 (.j2 (.j2 (.j2 (ae (ae (.j2 (ae (ae (ae pg)))))))))));right;refine sP (xa (s:=(at',x',cs')) (s':=g.s) (za.at) zb.at (za.jG .k2) (zb.jG .k1) (za.get .k1) (zb.get .k2) (by rw[hg];exact hl2)) (by decide) (λe=>Sep.ne (zb.sub (Γ':=[pt g.t _,pt t (wn [v0 at',ut t1,ut l1])]) (by ac_nf)) e.symm) ?_;exact q _ H6 hs' (Sep.cut (A:=[]) (B:=es.map aU) (Sep.cut (A:=[]) (B:=h2.map aU) za.drop.drop.drop.drop.drop.drop.drop.drop))
end
section
variable {DE EL:Addr}{S L:List (Addr×Rw)}{rs:List Rw}{ws:List Str}{ss:List (Int×Bx×List Int)}{dd:List (Int×Bx×List Int×List (Int×Int))}{lo N:Nat}{f g:SE}{es fs:List cA}{Δf Δg:List aw}
def GF {T:List aw}{o:cA}(hm:o ∈ fs)(z:Sep (T++(fs.map aU++O)) H):∃ ts Δ,Sep (tu o.te [v0 o.at_,ut o.t1,ut o.lc]::tu o.t1 (o.x.ls.map v0)::pt o.lc (wl (ts.map ut))::cM ts o.c0 o.g::(T++Δ)) H/\∀ {T':List aw}{H':Hp},Sep (tu o.te [v0 o.at_,ut o.t1,ut o.lc]::tu o.t1 (o.x.ls.map v0)::pt o.lc (wl (ts.map ut))::cM ts o.c0 o.g::(T'++Δ)) H'->Sep (T'++(fs.map aU++O)) H':=by
 obtain⟨i,hi⟩:=List.getElem?_of_mem hm;obtain⟨ts,z2⟩:=Bh (z.pull (A:=aU o) (ae (aF hi)));exact⟨ts,_,z2,λ{T' H'} y=>Sep.push (ae (aF hi)) (vf y)⟩
def tE (ro:Ro K R)(hk:15<=k)(hC:Cn rs ws ss dd)(how:ws=sn ws.length ("open":Str)) (w0:1<=ws.length) (w60:ws.length<=60) (hf:ss[lo]? =some f.s) (hN:lo+N<=dd.length) (hN1:N<=900) (he:es.map lj=(dd.drop lo).take N) (hln:es.length=N) (hsub:∀ e ∈ es,e ∈ fs) (hg:g.s.2.2.length=ws.length) (eL:L.map (·.2)=rs) (n0:1<=L.length) (n1:L.length<=24) (pf:ah (l6 f) O Δf) (pg:ah (l6 g) O Δg) (z:Sep (pt EL (wl (es.map aZ))::pt DE (wl (L.map bJ))::(fs.map aU++iU R L S O)) H)
  (q:∀ s H',ss[lo+N]? =some s->Sep (pt EL (wl (es.map aZ))::pt DE (wl (L.map bJ))::(fs.map aU++iU R L S O)) H'->Q (.bl (sEq s g.s)) H'):aa tab R k 106 [ut DE,ut f.t,ut EL,ut g.t] H Q E:=by
 delta ji;right;refine qF (xs:=es.map aZ) (by rw[ce];omega) (λD ys H=>∃ hs:List cA,ys=hs.map aZ/\hs.map lj=(es.take hs.length).map lj/\Sep (pt D (wl ys)::pt EL (wl (es.map aZ))::pt DE (wl (L.map bJ))::(hs.map aU++(fs.map aU++iU R L S O))) H) (λD ys H ⟨hs,_,_,zz⟩=>bj.of (zz.get .k1)) (λD hD=>⟨[],rfl,rfl,z.new (o:=wl []) hD⟩) (λD ys y H hy hI=>?_) (λD ys H hl hI=>?_)
 .obtain⟨hs,rfl,e,zz⟩:=hI;rw[im,ce]at hy;obtain⟨o,eo,rfl⟩:=nl.mp hy;have hlt:=(sw.mp eo).1;obtain⟨ts,Δ,z2,cl⟩:=GF (T:=pt D (wl (hs.map aZ))::pt EL (wl (es.map aZ))::pt DE (wl (L.map bJ))::hs.map aU) (hsub o (cr eo)) zz;have z2:Sep (tu o.te [v0 o.at_,ut o.t1,ut o.lc]::tu o.t1 (o.x.ls.map v0)::pt o.lc (wl (ts.map ut))::cM ts o.c0 o.g::pt D (wl (hs.map aZ))::pt EL (wl (es.map aZ))::pt DE (wl (L.map bJ))::(hs.map aU++Δ)) H:=z2;refine⟨o.te,v0 o.at_,ut o.t1,ut o.lc,rfl,bg.of z2.atT,?_⟩;right;rename_i lc2 H3 z3 te2 H4 z4;have hc:=cM.of (z4.pull (A:=cM ts o.c0 o.g) (by symm));have ht:H4 o.t1=some (wn (o.x.ls.map v0)):=z4.jG (by symm);have z5:Sep (tu o.te [v0 o.at_,ut o.t1,ut o.lc]::tu o.t1 (o.x.ls.map v0)::pt o.lc (wl (ts.map ut))::cM ts o.c0 o.g::tu te2 [v0 o.at_,ut o.t1,ut lc2]::pt lc2 (wl (ts.map ut))::pt D (wl (hs.map aZ))::pt EL (wl (es.map aZ))::pt DE (wl (L.map bJ))::(hs.map aU++Δ)) H4:=z4.toT.sub (by ac_nf);have z6:Sep (tu te2 [v0 o.at_,ut o.t1,ut lc2]::pt lc2 (wl (ts.map ut))::pt D (wl (hs.map aZ))::pt EL (wl (es.map aZ))::pt DE (wl (L.map bJ))::(hs.map aU++(fs.map aU++iU R L S O))) H4:=cl (T':=tu te2 [v0 o.at_,ut o.t1,ut lc2]::pt lc2 (wl (ts.map ut))::pt D (wl (hs.map aZ))::pt EL (wl (es.map aZ))::pt DE (wl (L.map bJ))::hs.map aU) z5;have z7:Sep (cM ts o.c0 o.g::tu o.t1 (o.x.ls.map v0)::_) H4:=(Sep.F4 ht z6).free λ_=>hc
  have z8:=vf (e:=⟨te2,o.t1,lc2,o.at_,o.x,o.c0,o.g⟩) (z7.sub (Γ':=tu te2 _::tu o.t1 _::pt lc2 _::cM ts o.c0 o.g::pt D (wl (hs.map aZ))::pt EL (wl (es.map aZ))::pt DE (wl (L.map bJ))::(hs.map aU++(fs.map aU++iU R L S O))) (by ac_nf));have z9:=(z8.pull (A:=pt D (wl (hs.map aZ))) .k1).set (o':=wl (hs.map aZ++[ut te2])) rfl;refine si.mk (z8.get .k1) (by rw[ce];omega) ⟨hs++[⟨te2,o.t1,lc2,o.at_,o.x,o.c0,o.g⟩],by rw[dL];rfl,?_,?_⟩
  .rw[ci,f8,dL,e,take_succ,eo,dL]
   rfl
  .exact Sep.push (.j2 (.t dh)) (z9.pull .k1)
 .obtain⟨hs,rfl,e,zz⟩:=hI;rw[ce,ce]at hl;rw[hl,take_length]at e;clear z;right;have z1:Sep (pt D (wl (hs.map aZ))::pt DE (wl (L.map bJ))::(hs.map aU++iU R L S (pt EL (wl (es.map aZ))::(fs.map aU++O)))) H:=by
   have y2:=Sep.mv (P:=[pt D (wl (hs.map aZ)),pt DE (wl (L.map bJ))]) (Δ:=[pt EL (wl (es.map aZ))]) (L:=hs.map aU) (O:=fs.map aU++iU R L S O) (zz.sub (.cons .e (.cons .k1 .refl)));have y3:Sep (([pt D (wl (hs.map aZ)),pt DE (wl (L.map bJ))]++hs.map aU)++(([pt EL (wl (es.map aZ))]++fs.map aU)++((L.reverse.map (su R)++S.reverse.map oz)++O))) H:=by
    simp only[jp]at y2⊢;exact y2
   have y4:=Sep.mv y3;simp only[jp]at y4⊢;exact y4
  clear zz;refine DS (hs:=hs) ro nofun hC how w0 w60 hf hN hN1 (e.trans he) nofun hg eL n0 n1 (.t (ae pf)) (.t (ae pg)) z1 (λs H2 hs2 z2=>?_);clear z1;have z3:Sep (pt D (wl (hs.map aZ))::pt EL (wl (es.map aZ))::pt DE (wl (L.map bJ))::(hs.map aU++(fs.map aU++iU R L S O))) H2:=by
   have y3:Sep (([pt D (wl (hs.map aZ)),pt DE (wl (L.map bJ))]++hs.map aU)++((L.reverse.map (su R)++S.reverse.map oz)++(([pt EL (wl (es.map aZ))]++fs.map aU)++O))) H2:=by
    simp only[jp]at z2⊢;exact z2
   have y4:=Sep.mv y3;simp only[jp]at y4;have y5:=Sep.mv (P:=[pt D (wl (hs.map aZ)),pt DE (wl (L.map bJ))]) (Δ:=hs.map aU) (L:=[pt EL (wl (es.map aZ))]) (O:=fs.map aU++iU R L S O) y4;exact Sep.sub (.cons .e (.cons .k1 .refl)) y5
  clear z2;right;refine DK (zq e z3.at (z3.get .k1) (λ{i a c} ha hc=>?_)) (by decide) (Sep.ne z3) ?_
  .obtain⟨j,hj⟩:=List.getElem?_of_mem (hsub c (cr hc));exact⟨_,(z3.pull (A:=aU c) (.j2 (.t (ae (aF hj))))).pull (A:=aU a) (.j2 (.j2 (aF ha)))⟩
  refine ar rfl ?_;right;exact q s H2 hs2 (Sep.cut (A:=[_,_]) (B:=hs.map aU) z3.drop)
end
abbrev D5:lK->lK
 | .cons (.for _ _ b) _=>b
 |_=>.nil
def Cn.snoc {ss:List (Int×Bx×List Int)}{dd:List (Int×Bx×List Int×List (Int×Int))}(h:Cn rs ws ss dd)(hs:ss[dd.length]? =some s)(hon:(mS rs s.1 s.2.1 s.2.2 ws).w="on") (hr:∀ r ∈ rs,Rw.ok r) (hl:ws.length<=60):Cn rs ws (ss++[Ik (mS rs s.1 s.2.1 s.2.2 ws)]) (dd++[(s.1,s.2.1,s.2.2,gM rs s.1 s.2.1 s.2.2 ws)]):=by
 obtain⟨⟨a0,a1⟩,hx,hcl,hc⟩:=(h.2 _ _ hs).1;refine⟨by rw[ci,ci,h.1];rfl,λi s' e'=>?_⟩;have hl1:=h.1
 by_cases hi:i<ss.length
 .rw[getElem?_append_left hi]at e';obtain⟨f1,f2⟩:=h.2 i s' e';refine⟨f1,λe ee=>?_⟩
  by_cases hd:i<dd.length
  .rw[getElem?_append_left hd]at ee;obtain⟨b1,b2,b3⟩:=f2 e ee;exact⟨b1,b2,by rw[getElem?_append_left nofun];exact b3⟩
  .have hid:i=dd.length:=by omega
   subst hid;rw[getElem?_append_right (pi _),Nat.sub_self]at ee;rw[hs]at e';cases e';cases ee;refine⟨rfl,hon,?_⟩;rw[getElem?_append_right nofun,show dd.length+1-ss.length=0 by omega]
   rfl
 .have hlt:=(sw.mp e').1;rw[ci,f8]at hlt;have hid:i=ss.length:=by omega
  subst hid;rw[getElem?_append_right (pi _),Nat.sub_self]at e';cases e';obtain⟨g0,g1,_⟩:=CD (x:=s.2.1) (cs:=s.2.2) (ws:=ws) a0 a1 hr;obtain⟨k1,k2⟩:=IB (rs:=rs) (at_:=s.1) hx hl hc;exact⟨⟨⟨g0,g1⟩,k1,(tR hx.2.2.1.1).2.trans hcl,k2⟩,λe ee=>by
   rw[getElem?_eq_none (by rw[ci,f8];omega)]at ee;cases ee⟩
section
variable {h ow SP d p lv lg DE ST:Addr}{S L:List (Addr×Rw)}{ws:List Str}{j:Nat}{N:Int}
abbrev tM (R:Rt)(h ow SP d p lv lg DE ST:Addr)(S L:List (Addr×Rw))(ws:List Str)(N:Int)(j:Nat)(H:Hp):Prop:=∃ at_ x cs,∃ (fs:List cA) (W:List SE),Cn (S.map (·.2)) ws (W.map (·.s)) (fs.map lj)/\(W.map (·.s))[fs.length]? =some (at_,x,cs)/\fs.length<=j/\Sep (oA ow SP d p lv lg at_ x cs ws (fs.map aZ) (pt SP (wl (S.map bJ))::pt DE (wl (L.map bJ))::pt ST (wl (W.map zU))::(fs.map aU++iU R L S (W.map l6++[hand h N])))) H
def DU {E:St->XK}{u0 u1 u2 u4 u6 u7 u8 u9 u10 u11:Option V}(hk:6<=k)(hj:j<=900)(w60:ws.length<=60)(okS:∀ r ∈ S.map (·.2),Rw.ok r) (z:tM R h ow SP d p lv lg DE ST S L ws N j H)
  (q:∀ H',tM R h ow SP d p lv lg DE ST S L ws N (j+1) H'->D.nx [u0,u1,u2,some (ut ow),u4,some (ut ST),u6,u7,u8,u9,u10,u11] H'):
  wB (D5 (fv 5 mF.body)) ⟨tab,R,aa tab R (k-1),true⟩ D E [u0,u1,u2,some (ut ow),u4,some (ut ST),u6,u7,u8,u9,u10,u11] H:=by
 obtain⟨at_,x,cs,fs,W,hC,hs,le,z⟩:=z;have hs':(W.map (·.s))[(fs.map lj).length]? =some (at_,x,cs):=by rw[ce];exact hs
 obtain⟨⟨⟨a0,a1⟩,hx,hcl,hc⟩,_⟩:=hC.2 _ _ hs;have hwl:=hC.1;rw[ce,ce]at hwl;have hsd:dX (pt DE (wl (L.map bJ))::pt ST (wl (W.map zU))::(fs.map aU++iU R L S (W.map l6++[hand h N]))) (S.map bJ) (S.map (·.2)):=(qr (S:=S) rfl okS).app.app.more.more;right;refine Iw (rs:=S.map (·.2)) nofun a0 (by rw[ce]at a1;rw[ce];exact a1) hx.2.2.1.1 hcl w60 (by rw[ce];omega) hsd z (λhon te t1 lc H1 z1=>?_) (λhno H1 z1=>?_)
 .have hC2:=hC.snoc hs' hon okS w60;clear z;generalize gM (S.map (·.2)) at_ x cs ws=g at z1 hC2
  generalize mS (S.map (·.2)) at_ x cs ws=M at z1 hC2
  right;refine⟨ST,_,rfl,z1.get (by symm),?_⟩;right;have z2:Sep (oA ow SP d p lv lg M.at_ M.x M.cs ws (fs.map aZ++[ut te]) (aU ⟨te,t1,lc,at_,x,cs,g⟩::pt SP (wl (S.map bJ))::pt DE (wl (L.map bJ))::pt ST (wl (W.map zU))::(fs.map aU++iU R L S (W.map l6++[hand h N])))) H1:=z1.sub (by ac_nf);clear z1;refine pV nofun z2 (λt b1 l1 H2 z3=>?_);clear z2;right;refine⟨_,z3.get (by symm),tS z3 (by ac_rfl) (by rw[ce];omega) (λH3 z4=>?_)⟩;clear z3;right;have z5:Sep (l6 ⟨t,b1,l1,(M.at_,M.x,M.cs)⟩::aU ⟨te,t1,lc,at_,x,cs,g⟩::oA ow SP d p lv lg M.at_ M.x M.cs ws (fs.map aZ++[ut te]) (pt SP (wl (S.map bJ))::pt DE (wl (L.map bJ))::pt ST (wl (W.map zU++[ut t]))::(fs.map aU++iU R L S (W.map l6++[hand h N])))) H3:=Fd ((z4.pull (A:=pt b1 (wn (M.x.ls.map v0))) (by symm)).toT.sub (by ac_nf));have z6:=Sep.push (.j2 (.j2 (.j2 (.j2 (.t (ae (ae (ae dh)))))))) z5;have z7:=Sep.push (.j2 (.j2 (.j2 (.j2 dh)))) z6;refine q H3 ⟨M.at_,M.x,M.cs,fs++[⟨te,t1,lc,at_,x,cs,g⟩],W++[⟨t,b1,l1,(M.at_,M.x,M.cs)⟩],?_,?_,?_,?_⟩
  .rw[dL,dL];exact hC2
  .rw[dL,getElem?_append_right (by rw[ce,ci];show W.length<=fs.length+1;omega),ce,ci,show fs.length+[(⟨te,t1,lc,at_,x,cs,g⟩:cA)].length-W.length=0 by rw[f8];omega]
   rfl
  .rw[ci,f8]
   omega
  .rw[dL (f:=aZ),dL (f:=zU)];exact z7
 .obtain⟨_,_,g2⟩:=CD (x:=x) (cs:=cs) (ws:=ws) a0 a1 okS;rcases g2 with g2|⟨_,e1,e2,e3⟩
  .exact absurd g2 hno
  rw[e1,e2,e3]at z1;right;refine ar (by show((mS (S.map (·.2)) at_ x cs ws).w =="on")=false;simpa using hno) ?_;right;exact q H1 ⟨at_,x,cs,fs,W,hC,hs,by omega,z1⟩
end
def DH {m:Nat}(h:n<=xs.length)(h2:m<=xs.length):jw xs (some (n:Int)) (some (m:Int))=(xs.drop n).take (m-n):=by
 unfold jw;show(xs.drop (if(n:Int)<0 then((n:Int)+(xs.length:Int)).toNat else min (n:Int).toNat xs.length)).take ((if(m:Int)<0 then((m:Int)+(xs.length:Int)).toNat else min (m:Int).toNat xs.length)-(if(n:Int)<0 then((n:Int)+(xs.length:Int)).toNat else min (n:Int).toNat xs.length))=_;rw[if_neg (by omega:¬ (n:Int)<0),if_neg (by omega:¬ (m:Int)<0),re,re,Nat.min_eq_left h,Nat.min_eq_left h2]
section
variable {h lg ST DE EL:Addr}{S L:List (Addr×Rw)}{ws:List Str}{fs:List cA}{W:List SE}{i j M:Nat}{f g:SE}{N:Int}{vs:List V}
def ID {e d a1 a2 a3:aw}{A G:List aw}(z:Sep (e::a1::a2::a3::d::(A++iU R L S G)) H):Sep (e::d::(A++iU R L S (a1::a2::a3::G))) H:=by
 have y:=Sep.mv (P:=[e]) (Δ:=[a1,a2,a3]) (L:=d::(A++(L.reverse.map (su R)++S.reverse.map oz))) (O:=G) (H:=H) (by simpa only [jp,cons_append,nil_append] using z);simpa only [jp,cons_append,nil_append] using y
def Fq {e d a1 a2 a3:aw}{A G:List aw}(z:Sep (e::d::(A++iU R L S (a1::a2::a3::G))) H):Sep (e::a1::a2::a3::d::(A++iU R L S G)) H:=by
 have y:=Sep.mv (P:=[e]) (L:=[a1,a2,a3]) (Δ:=d::(A++(L.reverse.map (su R)++S.reverse.map oz))) (O:=G) (H:=H) (by simpa only [jp,cons_append,nil_append] using z);simpa only [jp,cons_append,nil_append] using y
noncomputable abbrev nY (R:Rt)(h lg ST DE:Addr)(S L:List (Addr×Rw))(fs:List cA)(W:List SE)(N:Int):List aw:=hand h N::pt lg (wl (fs.map aZ))::pt ST (wl (W.map zU))::pt DE (wl (L.map bJ))::(fs.map aU++iU R L S (W.map l6++[]))
def fQ {n:Int}(e:n=(i:Int))(hf:W[i]? =some f):kO (W.map zU) n=some (ut f.t):=by
 subst e;have hi:=(sw.mp hf).1;unfold kO vA;rw[if_pos nofun,if_pos (by rw[ce];omega),re];show(W.map zU)[i]? =_;rw[im,hf]
 rfl
def tQ {lo hi:Int}(e1:lo=(i:Int))(e2:hi=(j:Int))(h1:i<=j)(h2:j<=fs.length):jw (fs.map aZ) (some lo) (some hi)=((fs.drop i).take (j-i)).map aZ:=by
 subst e1 e2;rw[DH (by rw[ce];omega) (by rw[ce];omega),map_take,map_drop]
def E5 (hi:W[i]? =some f)(hj:W[j]? =some g)(hl:f.s.2.2.length=g.s.2.2.length)(z:Sep (nY R h lg ST DE S L fs W N) H)(q:Q (.bl (sEq f.s g.s)) H):eB K false (ut f.t) (ut g.t) H Q:=by
 have zi:=wk (z.pull (A:=l6 f) (.j2 (.j2 (ae (ae (ae (aF hi)))))));have zj:=wk (z.pull (A:=l6 g) (.j2 (.j2 (ae (ae (ae (aF hj)))))))
 by_cases e:i=j
 .subst e;rw[hi]at hj;cases hj;rw[kK]at q;exact eq_self (.inr (.inl ⟨_,bg.of zi.at⟩)) q
 .refine sP (xa zi.at zj.at (zi.jG .k1) (zj.jG .k1) (zi.get .k2) (zj.get .k2) hl) (by decide) ?_ q;have hj2:∃ j':Nat,(W.eraseIdx i)[j']? =some g:=by
   by_cases hlt:j<i
   .exact⟨j,by rw[List.getElem?_eraseIdx,if_pos hlt];exact hj⟩
   .exact⟨j-1,by rw[List.getElem?_eraseIdx,if_neg nofun,show j-1+1=j by omega];exact hj⟩
  obtain⟨j',hj2⟩:=hj2;have y:=wk (zi.pull (A:=l6 g) (.j2 (.t (.j2 (.j2 (ae (ae (ae (aF hj2)))))))));exact λe=>Sep.ne (y.pull (A:=pt f.t _) .k3) e
def tH (ro:Ro K R)(hk:15<=k)(hC:Cn (S.map (·.2)) ws (W.map (·.s)) (fs.map lj))(how:ws=sn ws.length ("open":Str)) (w0:1<=ws.length) (w60:ws.length<=60) (eL:L.map (·.2)=S.map (·.2)) (n0:1<=L.length) (n1:L.length<=24) (hf:W[i]? =some f) (hg:W[j]? =some g) (hM:i+M<=fs.length) (h60:fs.length<=60) (e:vs=((fs.drop i).take M).map aZ) (z:Sep (pt EL (wl vs)::nY R h lg ST DE S L fs W N) H)
  (q:∀ s H',W[i+M]? =some s->Sep (nY R h lg ST DE S L fs W N) H'->Q (.bl (sEq s.s g.s)) H'):aa tab R k 106 [ut DE,ut f.t,ut EL,ut g.t] H Q E:=by
 subst e;refine tE (fs:=fs) (es:=(fs.drop i).take M) (lo:=i) (N:=M) (f:=f) (g:=g) ro hk hC how w0 w60 (by rw[im,hf];rfl) (by rw[ce];exact hM) nofun (by rw[map_take,map_drop]) (by rw[db,io];omega) (λe he=>List.mem_of_mem_drop (List.mem_of_mem_take he)) (hC.2 j g.s (by rw[im,hg];rfl)).1.2.2.1 eL n0 n1 (.j2 (.t (aF hf))) (.j2 (.t (aF hg))) (ID z) (λs H' hs z'=>?_);rw[im]at hs;obtain⟨s',e,rfl⟩:=nl.mp hs;exact q s' H' e (Fq z').drop
def E7 {E:St->XK}{u0 u2 u3 u6 u8 u9 u10 u11:Option V}(ro:Ro K R)(hk:16<=k)(hN:N<=1000000)(hC:Cn (S.map (·.2)) ws (W.map (·.s)) (fs.map lj))(how:ws=sn ws.length ("open":Str)) (w0:1<=ws.length) (w60:ws.length<=60) (eL:L.map (·.2)=S.map (·.2)) (n0:1<=L.length) (n1:L.length<=24) (h60:fs.length<=60) (z:Sep (nY R h lg ST DE S L fs W N) H)
  (q:∀ u8 u9 u10 u11 H',Sep (nY R h lg ST DE S L fs W (N+3)) H'->D.nx [u0,some (ut h),u2,u3,some (ut DE),some (ut ST),u6,some (ut lg),u8,u9,u10,u11] H'):
  wB (D5 (fv 7 mF.body)) ⟨tab,R,aa tab R (k-1),true⟩ D E [u0,some (ut h),u2,u3,some (ut DE),some (ut ST),u6,some (ut lg),u8,u9,u10,u11] H:=by
 have hwl:W.length=fs.length+1:=by
  have:=hC.1
  rwa [ce,ce]at this
 have ex:∀ i,i<W.length->∃ f,W[i]? =some f:=λi hi=>⟨_,li hi⟩
 have hlen:∀ {i j:Nat}{f g:SE},W[i]? =some f->W[j]? =some g->f.s.2.2.length=g.s.2.2.length:=λ{i j f g} h1 h2=>(hC.2 i f.s (by rw[im,h1];rfl)).1.2.2.1.trans (hC.2 j g.s (by rw[im,h2];rfl)).1.2.2.1.symm
 walk_at "gd";rename_i r1 H1 r10 r11 z1 r2 H2 r20 r21 z2 r3 H3 r30 r31 z3;rw[ce]at r11 r21 r31;clear z z1 z2;obtain⟨i,rfl⟩:∃ i:Nat,r1=i:=⟨r1.toNat,by omega⟩;obtain⟨m,hm⟩:∃ m:Nat,(i:Int)+r2=m:=⟨((i:Int)+r2).toNat,by omega⟩;obtain⟨o,rfl⟩:∃ o:Nat,r3=o:=⟨r3.toNat,by omega⟩;rw[hm];have him:i<=m:=by omega
 obtain⟨f,hf⟩:=ex i nofun;obtain⟨g,hg⟩:=ex m nofun;obtain⟨b,hb⟩:=ex o nofun;have z3:Sep (nY R h lg ST DE S L fs W (N+3)) H3:=aq z3 nofun;have last:∀ {u11:Option V}{H:Hp},Sep (nY R h lg ST DE S L fs W (N+3)) H->wB (fv 7 (D5 (fv 7 mF.body))) ⟨tab,R,aa tab R (k-1),true⟩ D E [u0,some (ut h),u2,u3,some (ut DE),some (ut ST),u6,some (ut lg),some (v0 i),some (v0 m),some (v0 o),u11] H:=by
  intro u11 H z;right;refine aD (λg1=>?_) (λg1=>?_)
  .obtain⟨c,hc⟩:=ex (m-1) nofun;right;refine az (by grind) (fQ nofun hc) ?_;right;refine az (by grind) (fQ rfl hg) ?_;right;refine E5 hc hg (hlen hc hg) z ?_;right;refine az (by grind) (fQ rfl hf) ?_;right;rename_i EL H4 z4;refine az (by grind) (fQ rfl hg) ?_;right;refine tH (M:=m-1-i) ro nofun hC how w0 w60 eL n0 n1 hf hg nofun h60 (tQ rfl nofun nofun nofun) z4 (λs H5 hs z5=>?_);rw[show i+(m-1-i)=m-1 by omega,hc]at hs;cases hs;right;refine aG (eT rfl) ?_;right;exact q _ _ _ _ _ z5
  .right;exact q _ _ _ _ _ z
 refine az (by grind) (fQ rfl hf) ?_;right;rename_i EL H4 z4;refine az (by grind) (fQ rfl hg) ?_;right;refine tH (M:=m-i) ro nofun hC how w0 w60 eL n0 n1 hf hg nofun h60 (tQ rfl rfl nofun nofun) z4 (λs H5 hs z5=>?_);clear z3 z4;rw[show i+(m-i)=m by omega,hg]at hs;cases hs;rw[kK];right;refine Am ?_;right;refine az (by grind) (fQ rfl hb) ?_;right;refine az (by grind) (fQ rfl hg) ?_;right;refine E5 hb hg (hlen hb hg) z5 ?_;right;refine az (by grind) (fQ rfl hf) ?_;right;rename_i EL H6 z6;refine az (by grind) (fQ rfl hb) ?_;right;refine tH (M:=m-i) ro nofun hC how w0 w60 eL n0 n1 hf hb nofun h60 (tQ rfl rfl nofun nofun) z6 (λs H7 hs z7=>?_);clear z5 z6;rw[show i+(m-i)=m by omega,hg]at hs;cases hs;right;refine aG (by rw[wD];exact eT rfl) ?_;right;refine aD (λg1=>?_) (λg1=>last z7);rw[ce]at g1;obtain⟨c,hc⟩:=ex (m+1) nofun;right;refine az (by grind) (fQ nofun hc) ?_;right;refine az (by grind) (fQ rfl hg) ?_;right;refine E5 hc hg (hlen hc hg) z7 ?_;right;refine az (by grind) (fQ rfl hf) ?_;right;rename_i EL H8 z8;refine az (by grind) (fQ rfl hg) ?_;right;refine tH (M:=m+1-i) ro nofun hC how w0 w60 eL n0 n1 hf hg nofun h60 (tQ rfl nofun nofun nofun) z8 (λs H9 hs z9=>?_);clear z7 z8;rw[show i+(m+1-i)=m+1 by omega,hc]at hs;cases hs;right;refine aG (eT rfl) ?_;exact last z9
end
def Dv (ro:Ro K R)(hk:16<=k):∀ vs H Q E,jk K 63 vs H Q E->aa tab R k 107 vs H Q E:=by
 rintro vs H Q E ⟨a,sc,rfl,hS,h63,hQ⟩;delta mF;right;rw[<-ro.hK]at hS;refine FQ nofun Sep.nil hS h63 (λh H1 z1=>?_);walk_at "gd";rename_i r1 H2 r10 r11 z2;clear z1;refine FN (O:=[]) (m:=10) nofun nofun (by decide) (by decide) (aq z2 nofun) (λow SP d p lv lg at_ x cs ws S H4 c0 c60 hc hl hw hx s0 s1 okS a0 a1 how z4=>?_);clear z2;have how:ws=sn ws.length ("open":Str):=hl▸how rfl;have w0:1<=ws.length:=hl▸c0;have w60:ws.length<=60:=hl▸c60;right;have hs0:dX (oA ow SP d p lv lg at_ x cs ws [] (pt SP (wl (S.map bJ))::hand h 1010::(S.reverse.map oz++[]))) (S.map bJ) (S.map (·.2)):=(qr (S:=S) (O:=[]) rfl okS).more.more.more.more.more.more.more;refine yA (rs:=S.map (·.2)) (k:=k-1) ro nofun (by rw[ce];exact s1) hs0 (.j2 (.t .k2)) z4 (λh=>?_) (λDE L H5 eL z5=>?_)
 .right;exact h
 clear z4;have z6:Sep (pt DE (wl (L.map bJ))::oA ow SP d p lv lg at_ x cs ws [] (pt SP (wl (S.map bJ))::hand h 1010::(L.reverse.map (su R)++(S.reverse.map oz++[])))) H5:=Sep.mv (P:=[_]) (Δ:=L.reverse.map (su R)) (L:=[_,_,_,_,_,_,_]) z5;have ll:L.length=S.length:=by
  have:=congrArg List.length eL
  rwa [ce,ce]at this
 have z7:Sep (oA ow SP d p lv lg at_ x cs ws [] (pt SP (wl (S.map bJ))::pt DE (wl (L.map bJ))::hand h 1010::(L.reverse.map (su R)++(S.reverse.map oz++[])))) H5:=z6.sub (by ac_nf);clear z5 z6;right;refine pV nofun z7 (λt b1 l1 H6 z8=>?_);clear z7;right;rename_i ST H7 z9;have za:Sep (l6 ⟨t,b1,l1,(at_,x,cs)⟩::hand h 1010::oA ow SP d p lv lg at_ x cs ws [] (pt SP (wl (S.map bJ))::pt DE (wl (L.map bJ))::pt ST (wl [ut t])::(L.reverse.map (su R)++(S.reverse.map oz++[])))) H7:=Fd ((z9.pull (A:=pt b1 (wn (x.ls.map v0))) (by symm)).toT.sub (by ac_nf));clear z8 z9;have zb:tM R h ow SP d p lv lg DE ST S L ws 1010 0 H7:=by
  refine⟨at_,x,cs,[],[⟨t,b1,l1,(at_,x,cs)⟩],⟨rfl,λi s e=>?_⟩,rfl,pi _,?_⟩
  .match i,e with
   |0,e=>
    cases e;exact⟨⟨⟨a0,by rw[ce];exact a1⟩,hx,hl,hc⟩,λe ee=>nomatch ee⟩
  .have y:Sep (hand h 1010::oA ow SP d p lv lg at_ x cs ws [] (pt SP (wl (S.map bJ))::pt DE (wl (L.map bJ))::pt ST (wl [ut t])::(L.reverse.map (su R)++(S.reverse.map oz++[l6 ⟨t,b1,l1,(at_,x,cs)⟩])))) H7:=Sep.push (.j2 (.j2 (.j2 (.j2 (.t (ae (ae .e))))))) za;exact Sep.push (.j2 (.j2 (.j2 (.j2 (ae (ae (ae .k1))))))) y
 right;refine jI (λj U H=>∃ u6,U=[some (ut a),some (ut h),some (v0 r1),some (ut ow),some (ut DE),some (ut ST),u6,none,none,none,none,none]/\tM R h ow SP d p lv lg DE ST S L ws 1010 j H) ⟨none,rfl,zb⟩ ?_ ?_
 .rintro j U H hj ⟨u6,rfl,zz⟩;exact DU (k:=k) nofun nofun w60 okS zz (λH' z2=>⟨_,rfl,z2⟩)
 rintro U H ⟨u6,rfl,zz⟩;have hj:r1.toNat<=60:=by omega
 generalize r1.toNat=j at zz hj;obtain⟨at_,x,cs,fs,W,hC,hs,le,z⟩:=zz;right;have z0:Sep (nY R h lg ST DE S L fs W 1010) H:=(z.pull (A:=hand h 1010) (.j2 (.j2 (.j2 (.j2 (ae (ae (ae (ae .e))))))))).sub (by ac_nf);clear z za;refine jI (λi U H=>∃ u6 u8 u9 u10 u11,U=[some (ut a),some (ut h),some (v0 r1),some (ut ow),some (ut DE),some (ut ST),u6,some (ut lg),u8,u9,u10,u11]/\Sep (nY R h lg ST DE S L fs W (1010+3*(i:Int))) H) ⟨_,none,none,none,none,rfl,(show(1010:Int)+3*((0:Nat):Int)=1010 by omega)▸z0⟩ ?_ ?_
 .rintro i U H hi ⟨u6,u8,u9,u10,u11,rfl,zz⟩;have hi:i<5:=hi;refine E7 (k:=k) ro nofun nofun hC how w0 w60 eL nofun nofun nofun zz (λu8 u9 u10 u11 H' z2=>⟨_,u8,u9,u10,u11,rfl,?_⟩);rw[show(1010:Int)+3*((i+1:Nat):Int)=1010+3*(i:Int)+3 by omega];exact z2
 rintro U H ⟨u6,u8,u9,u10,u11,rfl,zz⟩;have hwl:W.length=fs.length+1:=by
  have:=hC.1
  rwa [ce,ce]at this
 obtain⟨f,hf⟩:∃ f,W[0]? =some f:=⟨_,li nofun⟩;obtain⟨g,hg⟩:∃ g,W[fs.length]? =some g:=⟨_,li nofun⟩;have eg:(W.map (·.s))[fs.length]? =some g.s:=by rw[im,hg];rfl
 have lst:kO (W.map zU) (-1)=some (ut g.t):=by
  unfold kO vA;rw[if_neg (by decide),if_pos (by rw[ce];omega),ce,show((-1:Int)+(W.length:Int)).toNat=fs.length by omega];show(W.map zU)[fs.length]? =_;rw[im,hg]
  rfl
 right;refine az (by grind) (fQ rfl hf) ?_;right;refine az (by grind) lst ?_;right;have z1:Sep (pt lg (wl (fs.map aZ))::pt DE (wl (L.map bJ))::(fs.map aU++iU R L S (W.map l6++[]))) H:=zz.sub (by ac_nf);refine tE (fs:=fs) (es:=fs) (lo:=0) (N:=fs.length) (f:=f) (g:=g) ro nofun hC how w0 w60 (by rw[im,hf];rfl) (by rw[ce];omega) nofun (by rw[drop_zero,take_of_length_le (by rw[ce];omega)]) rfl (λe he=>he) (hC.2 _ g.s eg).1.2.2.1 eL nofun nofun (aF hf) (aF hg) z1 (λs H' es z'=>?_);rw[Nat.zero_add,eg]at es;cases es;rw[kK];right;refine Ez ?_;exact hQ H'
def zk (ro:Ro K R):∀ vs H Q E,jk K 63 vs H Q E->aa tab R 16 107 vs H Q E:=Dv ro (pi _)
end
def walk {l:W.OpenLaw}{q:Program}{loose:List Str}{XP:(Str->Option Value)->Heap->Prop}{YP:World->Heap->Prop}{d:DefRec}{K:Params->W.Frag}(hn:l.most=some 63)(hdf:d.params.defaults=[])
    (hY:∀ (w:World) (h:Heap),YP w h->(K w.params).In h)
    (F:∀ (w:World) (mg:LG) (fa:Addr) (h:Heap),(K w.params).In h->h.Ns mainGlobals mg->mg d.name=some (.ref fa)->
      ∃ fd:FuncData,(∀ (s:Shared) (u:Value),BindsTo s fd ⟨[u],[]⟩ [("_law_script",u)])/\∀ base:Heap,(K w.params).In base->base.Ns mainGlobals mg->cN l.prog w (K w.params) mg base (zx l.prog w) 32 fa fd ["_law_script"] (jk (K w.params) 63)):
    W.WalkO q loose XP YP l.row.toRowW d [] (λf vs=>PySem.call f vs):=
  L2.Bj (n:=63) (k:=32) (x:="_law_script") (CX:=λw=>zx l.prog w) (sp:=λw=>jk (K w.params) 63) hn (by decide) hdf ⟨rfl,by decide,by decide⟩ hY F (λ_ _ a ns hl _ hS=>⟨a,ns,rfl,hS,hl,λ_=>rfl⟩) λ_ _ _ _ _ z=>wQ z
abbrev Kr:List (Str×V):=[("BOUND",.int 1000000000),("MOST_CELLS",.int 60),("MOST_ROWS",.int 24),("MOST_HOPPED",.int 24),("NAMES",.ref 182)]
def Lc (p:Params):L3.AR (K0 p) tab JO KJ Kr=true:=by kernel_rfl
def K2 (p:Params):L3.lx (K0 p) tab JO 0 tab.fns=true:=by kernel_rfl
end My
open PySem PySem.W PyProof.Rows
set_option maxRecDepth 100000 in
set_option maxHeartbeats 0 in
theorem PySem.Challenge.cw_haulbell_k55_logs_let_by_holds : PySem.Challenge.rw_haulbell_k55_logs_let_by.Holds := by
  refine holds_law My.Gz fun said=>?_
  refine W.holds_open (loose:=My.zH) (N:=18744)
    (q:=My.qv My.pr)
    (Yf:=fun s=>My.IQ.map s.heap.get?)
    (Ya:=fun w=>(My.K0 w.params).map fun p=>some p.2)
    (Xt:=fun s=>xlAt (My.qv My.pr) [] s&&recOk PySem.Challenge.rw_haulbell_k55_logs_let_by.row.records s)
    (XP:=XL (My.qv My.pr) [])
    (YP:=InK My.K0) My.GB
    (InK.of (as:=My.IQ) fun _=>by kernel_rfl) InK.keeps
    (fun s e=>xl_of s (Bool.and_eq_true_iff.mp e).1)
    XL.keeps (by rfl) (by rfl) (by rfl)
    (fun s e=>recFacts_of (Bool.and_eq_true_iff.mp e).2)
    (by rfl) (by assumption) (by decide+kernel)
    ⟨rfl,rfl,rfl,rfl,rfl,by decide+kernel⟩ ?hw ?hc
  case hw=>w_witness2
  refine My.walk (l:=PySem.Challenge.rw_haulbell_k55_logs_let_by) rfl rfl (fun w h Y=>Y) ?F
  case F=>
    intro w mg fa h KX G hmg;exact L3.A2 KX G hmg (T:=My.tab) (fs:=My.JO) (cs:=My.KJ) (gs:=My.Kr) (d:=My.mF) (fl:=107) (k:=16) (My.Lc _) (My.K2 _) (by kernel_rfl) rfl rfl rfl (My.zk ⟨rfl,by kernel_rfl,by kernel_rfl,by kernel_rfl,by kernel_rfl,⟨182,by kernel_rfl,L3.Fy (by kernel_rfl)⟩⟩)
