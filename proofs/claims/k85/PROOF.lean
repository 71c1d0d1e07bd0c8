import PyProof.Rows.All
import Wide.All
import OpenK.AllK
import Wide.FinOn
import PySem.Challenge.RW_haulbell_k85_whole_parted
import Lean
import PyProof.EqAt
import PyProof.EqKinds
import PyProof.TupleCall
import PyProof.EnumStmt
import PyProof.NeKinds
import PyProof.ExcAttrAll.ValueError
import PyProof.ExcInit
import PyProof.StationsW
import PyProof.NsDelKeeps
import PyProof.InstStoreFacts
import PyProof.ZipIter
import PyProof.IsiBase
import PyProof.AttrMiss
import KE.KDictOf
import KE.KDictList
import PyProof.InstEq
import PyProof.Rows.Range3
import PyProof.StrOps2
import KE.LcSums
open PySem.W renaming behindTheImports→ac
open PySem renaming wpAny_bind→ad,wpAny_pure→am,wpAny_field→ap,wpAny_holding→bd,wpAny_truthy_bool→bi,starEach→bm,sizeLine→bn,wpAny_Call_Name_kw→bv
open List renaming length_map→ci,length_append→cr,mem_of_getElem?→db,length_take→dl,mem_cons_of_mem→dL,map_append→f8,length_singleton→ge,size_toArray→ii,mem_append_right→im,getElem?_map→io,length_drop→jp,append_assoc→le,getElem?_eq_getElem→li,mem_cons_self→lv,mem_cons→lw
open Bool renaming and_eq_true→mo
open Option renaming map_eq_some_iff→nb
open Nat renaming lt_of_lt_of_le→nw,le_of_ble_eq_true→ol,ne_of_lt→pc,le_refl→pi
open Int renaming toNat_natCast→re,eq_ofNat_of_zero_le→sn
open List renaming replicate→sw,getElem?_eq_some_iff→sK
open PySem.Heap renaming get?_push_of_some→tz,lt_size→u8,get?_push_size→ul
set_option linter.all false
set_option maxRecDepth 100000
set_option Elab.async false
set_option compiler.extract_closed false
theorem My.kleA {a b k:Nat}(h:a<=k)(e:Nat.ble (b+1) a=true):b<=k-1:=Nat.le_sub_one_of_lt (nw (ol e) h)
theorem My.kleB {a b k:Nat}(h:a<=k)(e:Nat.ble b a=true):b<=k:=Nat.le_trans (ol e) h
set_option hygiene false
local macro_rules| `(tactic|sleep $n:num)=>`(tactic|((conv at h=>lhs;whnf);iterate $n (split at h;rotate_left;cases h)))
set_option hygiene true
local macro_rules|`(command|abbrev $i:declId $s:optDeclSig $v:declVal)=>`(command|noncomputable def $i:declId $s:optDeclSig $v:declVal)
local macro_rules|`(command|def $i:declId $b:bracketedBinder* :$t $v:declVal)=>`(command|theorem $i:declId $b:bracketedBinder* :$t $v:declVal)
local macro_rules|`(nofun)=>`(by first|exact My.kleA (by assumption) (by rfl)|exact My.kleB (by assumption) (by rfl)|lia|omega)
local macro_rules|`(tactic|omega)=>`(tactic|lia)
noncomputable abbrev My.pr:PySem.Program:=PySem.Challenge.rw_haulbell_k85_whole_parted.row.prog
open PySem PySem.W in
set_option maxHeartbeats 0 in
def My.II:PySem.Challenge.rw_haulbell_k85_whole_parted.wellSaid=true:=by
  rewrite [Fast.te9446332074065402090]
  kernel_rfl
namespace L2
open PySem PySem.Spec
abbrev inClass (s:Stmt)(j:Nat):Stmt:=match s with
  | .ClassDef _ _ _ body _ _ _ _ _ _ _=>body.getD j (.Pass ⟨0,0,0,0⟩)
  |_=>.Pass ⟨0,0,0,0⟩
abbrev uU (s:Stmt):Arguments:=match s with
  | .FunctionDef _ a _ _ _ _ _ _ _ _=>a
  |_=>{ posonlyargs:=[],args:=[],vararg:=none,kwonlyargs:=[],kw_defaults:=[],kwarg:=none,defaults:=[] }
abbrev vo (s:Stmt):List Stmt:=match s with
  | .FunctionDef _ _ b _ _ _ _ _ _ _=>b
  |_=>[]
abbrev qe (s:Stmt):Scope:=match s with
  | .FunctionDef _ _ _ _ _ _ sc _ _ _=>sc
  |_=>{ kind:=.function,names:=[],isGenerator:=false,isCoroutine:=false }
end L2
namespace My
open PySem L2 PySem.W
abbrev top (i:Nat):Stmt:=PySem.Challenge.pw_haulbell_k85_whole_parted.main.body.getD i (.Pass ⟨0,0,0,0⟩)
abbrev tq (i j:Nat):Stmt:=inClass (top i) j
/-- the top's run on a tree -/
abbrev lh (tb:String->Option Builtin)(p:Program)(w:World)(m:Nat)(ann:Option Value):Nat->SharedT->Thread->Option SharedT
  |0,_,_=>none
  |n+1,s,t=>match through t with
    |true=>some s
    |false=>match stepOk m ann t with
      |false=>none
      |true=>match stepT (denote tb) p w s t with
        |some r=>lh tb p w m ann n r.1 r.2
        |none=>none
def uR {tb:String->Option Builtin}{p:Program}{w:World}{m:Nat}{ann:Option Value}:∀ {n:Nat}{s s':SharedT}{t:Thread},lh tb p w m ann n s t=some s'->topRun tb p w m ann n s.abs t=some s'.abs
  |0,_,_,_,h=>by cases h
  |n+1,s,s',t,h=>by
    unfold lh at h;unfold topRun;cases a:through t
    · rw[a] at h;dsimp only at h⊢
      cases b:stepOk m ann t
      · rw[b] at h;cases h
      · rw[b] at h;dsimp only at h⊢
        cases c:stepT (denote tb) p w s t with
        |none=>rw[c] at h;cases h
        |some r=>rw[c] at h;rw[stepT_spec c];exact uR h
    · rw[a] at h;cases h;rfl
abbrev HJ:Nat->BT->List Obj->BT
  |_,t,[]=>t
  |n,t,o::os=>HJ (n+1) (t.ins n o) os
abbrev yO (P:Params):BT:=HJ 0 .nil (boot_heap P).objs.toList
abbrev Ks (P:Params)(os:OsState):SharedT:=⟨yO P,11,(boot_heap P).life,Array.mk [],boot_drawn,boot_toks,os⟩
def vI {p q:Program}{loose:List Str}{Xt:Shared->Bool}{α:Type}{Yf:Shared->α}{Ya:World->α}{N:Nat}(e:opening p=plainProg p.main.scope.names)(hN:Nat.ble 600 N=true)(f:∀ s,fenceModules? p s=some s)
    (h0:∀ P,absHeap (yO P) 11 (boot_heap P).life=boot_heap P) (h1:∀ P,((boot_heap P).isNs mainGlobals,(boot_heap P).objs.size,(boot_heap P).nsMap mainGlobals "__annotations__")=(true,11,some (.ref 6)))
    (run:∀ (w:World) (os:OsState),(lh treeTable p w 11 (some (.ref 6)) N (Ks w.params os) (topStub p)).map (λs=>(staticsOk (importedModules p.main.body) (boot_heap w.params) s.abs.heap&&namesBound p s.abs.heap&&gensDone s.abs&&laidKept (boot_heap w.params) s.abs.heap,
      openSeen q loose (importedModules p.main.body) Xt true s.abs,Yf s.abs))=some (true,openGood q loose,Ya w)):LeftO p q loose Xt Yf Ya N:=λw=>by
  obtain ⟨⟨hp,gs,d,k,os⟩,e1,e2⟩:=nb.mp (boot_open e hN f w);obtain ⟨rfl,rfl,rfl,rfl⟩:hp=boot_heap w.params/\gs=Array.mk []/\d=boot_drawn/\k=boot_toks:=by simpa using e2
  obtain ⟨z1,z2,z3⟩:_/\_/\_:=by simpa only [Prod.mk.injEq] using h1 w.params
  obtain ⟨s,r,l⟩:=nb.mp (run w os);obtain ⟨l1,l2,l3⟩:_/\_/\_:=by simpa only [Prod.mk.injEq] using l
  have r1:=uR r;have a0:(Ks w.params os).abs=⟨boot_heap w.params,Array.mk [],boot_drawn,boot_toks,os⟩:=by
    show (⟨absHeap (yO w.params) 11 (boot_heap w.params).life,Array.mk [],boot_drawn,boot_toks,os⟩:Shared)=_;rw[h0]
  rw[a0] at r1;unfold openEnds;rw[e1];have t:topFrom treeTable p w N ⟨boot_heap w.params,Array.mk [],boot_drawn,boot_toks,os⟩=some s.abs:=by
    unfold topFrom;dsimp only;rw[z1,z2,z3,r1];show (match staticsOk (importedModules p.main.body) (boot_heap w.params) s.abs.heap&&namesBound p s.abs.heap&&gensDone s.abs&&laidKept (boot_heap w.params) s.abs.heap with|true=>some s.abs|false=>none)=some s.abs;rw[l1]
  show (topFrom treeTable p w N _).map _=_;rw[t];exact congrArg some (Prod.ext l2 l3)
abbrev KN:List Addr:=2::3::30::31::47::48::50::51::66::67::69::70::85::86::88::89::104::105::107::108::123::124::126::127::142::143::145::146::161::162::164::165::180::181::183::184::192::193::199::200::201::207::208::214::215::221::222::230::236::237::243::244::250::251::255::256::262::263::265::266::276::277::283::284::293::294::311::312::318::319::325::326::328::329::344::345::351::352::358::359::361::362::377::378::384::385::391::392::394::395::410::411::417::418::424::425::427::428::443::444::450::451::457::458::460::461::469::470::476::477::483::484::490::491::497::498::504::505::518::519::525::526::528::529::544::545::551::552::554::555::570::571::577::578::580::581::596::597::603::604::606::607::622::623::629::630::632::633::648::649::655::656::658::659::667::668::674::675::681::682::690::696::697::703::704::710::711::717::718::757::758::764::765::767::768::778::779::792::793::799::800::806::807::827::828::834::835::841::842::855::856::858::859::869::870::876::877::888::889::895::896::902::903::909::910::916::917::919::920::930::931::937::938::944::945::951::952::958::959::965::966::970::971::977::978::984::985::991::992::998::999::1007::1013::1014::1020::1021::1027::1028::1030::1031::1039::1040::1046::1047::1053::1054::1065::1066::1072::1073::1079::1080::1086::1087::1093::1094::1100::1101::1107::1108::1114::1115::1121::1122::1126::1127::1133::1134::1140::1141::1147::1148::1154::1155::1161::1162::1168::1169::1175::1176::1180::1181::1185::1186::[]
abbrev LM:List Addr:=48::67::86::105::124::143::162::181::193::200::208::215::222::237::244::251::256::263::277::284::312::319::326::345::352::359::378::385::392::411::418::425::444::451::458::470::477::484::491::498::505::519::526::545::552::571::578::597::604::623::630::649::656::668::675::682::697::704::711::718::758::765::779::793::800::807::828::835::842::856::870::877::889::896::903::910::917::931::938::945::952::959::966::971::978::985::992::999::1014::1021::1028::1040::1047::1054::1066::1073::1080::1087::1094::1101::1108::1115::1122::1127::1134::1141::1148::1155::1162::1169::1176::1181::1186::[]
abbrev Me:List Addr:=[31,51,70,89,108,127,146,165,184,266,294,329,362,395,428,461,529,555,581,607,633,659,768,859,920,1031]
abbrev runK (tb:String->Option Builtin)(p:Program)(w:World)(m:Nat)(ann:Option Value):Nat->SharedT->Thread->Option (SharedT×Thread)
  |0,s,t=>some (s,t)
  |n+1,s,t=>match through t with
    |true=>none
    |false=>match stepOk m ann t with
      |false=>none
      |true=>match stepT (denote tb) p w s t with
        |some r=>runK tb p w m ann n r.1 r.2
        |none=>none
def dc {tb:String->Option Builtin}{p:Program}{w:World}{m:Nat}{ann:Option Value}{k:Nat}:∀ {n:Nat}{s:SharedT}{t:Thread}{r:SharedT×Thread},runK tb p w m ann n s t=some r->lh tb p w m ann (n+k) s t=lh tb p w m ann k r.1 r.2
  |0,s,t,r,h=>by
    rw[Nat.zero_add];cases h
    rfl
  |n+1,s,t,r,h=>by
    rw[Nat.succ_add];unfold runK at h;conv=>lhs;unfold lh
    cases a:through t
    · rw[a] at h;dsimp only at h⊢
      cases b:stepOk m ann t
      · rw[b] at h;cases h
      · rw[b] at h;dsimp only at h⊢
        cases c:stepT (denote tb) p w s t with
        |none=>rw[c] at h;cases h
        |some r=>rw[c] at h;exact dc h
    · rw[a] at h;cases h
abbrev kT (x y:Str)(s:Stmt):Obj:=⟨.none,none,.func { name:=x,qualname:=y,params:=uU s,body:=.stmts (vo s),scope:=qe s,globals:=builtinsNs,closure:=[],defaults:=.none,kwdefaults:=.none },#[]⟩
abbrev bo (P:Params)(i:Nat):Obj:=(boot_heap P).objs.toList.getD i ⟨.none,none,.plain,#[]⟩
abbrev ir (p:Program):Env:={ scope:=p.main.scope,locals:=mainNs,globals:=mainNs,cells:=[],code:=.ref 13,frame:=some 14 }
abbrev Mi:Frame:=.ret (λx=>Sem.bind (match x with| .ok f=>Sem.pure f| .error e=>Sem.raise e) (λ_=>ret .none)) none false [] (.builtin "claim.caller" {}) default []
abbrev Bp (p:Program)(X:List Stmt):Sem Fin:=Sem.bind (Sem.onRaise (execs X (ir p)) (leaving (ir p))) (λa=>Sem.pure (Fin.done a))
abbrev kD (p:Program)(X:List Stmt)(q:Pos):Thread:=⟨Bp p X,.body (ac p) (ir p),q,[Mi]⟩
def yX {tb:String->Option Builtin}{p:Program}(h:blockStart (ac p) (ir p)=Sem.pure ()):denote tb (.body (ac p) (ir p))=Bp p (ac p):=by
  show Sem.bind (blockStart (ac p) (ir p)) (λ_=>Bp p (ac p))=_;rw[h]
  rfl
abbrev o0:Obj:=⟨.type "tuple",none,.seq #[] 0,#[]⟩
abbrev oN:Obj:=⟨.none,none,.fields #[],#[]⟩
abbrev oL:List Str->Nat->List Value
  | [],_=>[]
  |x::r,t=>.str x t::oL r (t+1)
abbrev oS (l:List Str)(t:Nat):Obj:=⟨.type "tuple",none,.seq (Array.mk (oL l t)) 0,#[]⟩
abbrev oI (l c a:Nat):Obj:=⟨.none,none,.fields #[.int l 0,.int c 0,.ref a],#[]⟩
abbrev oK (x:Str)(t l r:Nat):Obj:=⟨.type "code",none,.fields #[.str x t,.str x (t+1),.str "/claim/cut.py" (t+2),.int l 0,.int 0 0,.int 0 0,.int 0 0,.int 0 0,.ref r,.bool false,.int 181 0,.ref (r+1),.none,.none,.none,.none,.int (t+3:Nat) 0,.int l 0,.str "/claim/cut.py" (t+4)],#[]⟩
abbrev oC (x y:Str)(t l n r u:Nat):Obj:=⟨.type "code",none,.fields #[.str x t,.str y (t+1),.str "/claim/cut.py" (t+2),.int l 0,.int n 0,.int 0 0,.int 0 0,.int 3 0,.ref r,.bool true,.int 181 0,.ref (r+1),.none,.ref (r+2),.ref (r+3),.ref (r+4),.int u 0,.int l 0,.str "/claim/cut.py" (u+1)],#[]⟩
abbrev oF (x y:Str)(s:Stmt)(m:Str)(t c:Nat)(d:Value:=.none):Obj:=⟨.type "function",none,.func (fnOf x y (uU s) (vo s) (qe s) d .none .none (.str m t) none (.ref c) .none),#[]⟩
abbrev oR (a b:Nat)(m:Str)(t:Nat):Obj:=⟨.type "frame",none,.plain,#[some (.ref a),some (.ref 3),some (.ref b),none,some (.str m t),none,some (.ref 0)]⟩
abbrev oX (x:Str)(b m:List Value)(n:Addr)(s:List Value)(r t u:Nat)(w:String):Obj:=⟨.type "type",none,.cls ⟨x,b,m,n,x,true,[],s,false,none,false⟩,#[some (.ref r),none,some (.str x t),some (.str x u),some (.builtin w),some (.bool true)]⟩
abbrev oU (a:Addr):Obj:=⟨.type "super",none,.fields #[.ref a,.ref a,.ref a],#[]⟩
abbrev oJ (a:Addr):Obj:=⟨.type "builtin_function_or_method",none,.fields #[.builtin "object.__init_subclass__",.ref a],#[]⟩
abbrev oP:Obj:=⟨.type "builtin_function_or_method",none,.fields #[.builtin "type.__prepare__",.type "type"],#[]⟩
abbrev oQ (a:Addr):Obj:=⟨.type "tuple",none,.seq #[.ref a] 0,#[]⟩
abbrev fG (x y:Str)(s:Stmt)(m:Str)(mt:Nat)(l:List Str)(t ln n a:Nat)(r:List Obj):List Obj:=o0::oN::oS l (t+3)::o0::kT x y s::oC x y t ln n a (t+3+l.length)::oF x y s m mt (a+5)::r
abbrev oW:List (Nat×Obj)->List Obj->List Obj
  | [],l=>l
  |x::r,l=>(oW r l).set x.1 x.2
abbrev eV (x:Str)(t:Tok)(v:Value)(P:Params):DictEntry:=⟨PyData.keyHash P x,.str x t,v⟩
abbrev eM (t:Nat)(m:Str)(u:Nat):Params->DictEntry:=eV "__module__" t (.str m u)
abbrev eQ (t:Nat)(m:Str)(u:Nat):Params->DictEntry:=eV "__qualname__" t (.str m u)
abbrev eF (t l u:Nat):Params->DictEntry:=eV "__firstlineno__" t (.int l u)
abbrev eS (t a:Nat):Params->DictEntry:=eV "__static_attributes__" t (.ref a)
abbrev eN (t:Nat):Params->DictEntry:=eV "__doc__" t .none
abbrev eR (x:Str)(t a:Nat):Params->DictEntry:=eV x t (.ref a)
abbrev oD (P:Params)(es:List (Params->DictEntry))(n:Nat):Obj:=⟨.type "dict",none,.dict (Array.mk (es.map λf=>f P)) n,#[]⟩
abbrev MP (P:Params):List Obj:=
bo P 0::
bo P 1::
bo P 2::
bo P 3::
bo P 4::
bo P 5::
bo P 6::
bo P 7::
bo P 8::
bo P 9::
bo P 10::
o0::
oN::
oK "<module>" 182 1 11::
oR 13 3 "__main__" 164::[]
abbrev M3 (x y:Str)(t l n r:Nat):Obj:=⟨.type "code",none,.fields #[.str x t,.str y (t+1),.str "/claim/cut.py" (t+2),.int l 0,.int n 0,.int 0 0,.int 0 0,.int 3 0,.ref r,.bool true,.int 181 0,.ref (r+1),.none,.none,.none,.ref (r+2),.int (t+3:Nat) 0,.int l 0,.str "/claim/cut.py" (t+4)],#[]⟩
abbrev oG (x b:String)(v:Value)(a t:Nat):Obj:=⟨.type "getset_descriptor",none,.fields #[.str (Str.ofString x) t,.ref a,.builtin b,v],#[]⟩
@[reducible]def Mt:Type:=Str×Str×List Str×Nat×Nat×List (Obj×Nat)
abbrev EH (a t:Nat)(s:Stmt)(m:Str×Nat)(x y:Str)(l:List Str)(ln n:Nat)(d:Value):List Obj:=match l with
  | []=>o0::oN::kT x y s::M3 x y t ln n a::oF x y s m.1 m.2 (a+3) d::[]
  |_=>o0::oN::oS l (t+3)::o0::kT x y s::oC x y t ln n a (t+3+l.length)::oF x y s m.1 m.2 (a+5) d::[]
abbrev Mv (a t:Nat)(s:Stmt)(m:Str×Nat)(q:Mt):List Obj:=match q.2.2.2.2.2 with
  | []=>EH a t s m q.1 q.2.1 q.2.2.1 q.2.2.2.1 q.2.2.2.2.1 .none
  |d::_=>d.1::EH (a+1) (t+d.2) s m q.1 q.2.1 q.2.2.1 q.2.2.2.1 q.2.2.2.2.1 (.ref a)
abbrev DV (q:Mt)(a:Nat):Nat:=match q.2.2.1 with
  | []=>a+5+q.2.2.2.2.2.length
  |_=>a+7+q.2.2.2.2.2.length
abbrev Kl (q:Mt)(t:Nat):Nat:=match q.2.2.2.2.2 with
  | []=>t+6+q.2.2.1.length
  |d::_=>t+d.2+6+q.2.2.1.length
abbrev Mm (i:Nat)(m:Str×Nat):Nat->List Mt->Nat->Nat->(List Obj->Nat->Nat->List Obj)
  |_,[],_,_=>λr _ _=>r
  |j,q::l,a,t=>λr x y=>Mv a t (inClass (top i) j) m q++Mm i m (j+1) l (DV q a) (Kl q t) r x y
abbrev Mx:List Mt->Nat->Nat
  | [],a=>a
  |q::l,a=>Mx l (DV q a)
abbrev Mw:List Mt->Nat->Nat
  | [],a=>a
  |q::l,a=>Mw l (Kl q a)
abbrev Mq:List Mt->Nat->Nat->List (Params->DictEntry)->List (Params->DictEntry)
  | [],_,_,r=>r
  |q::l,a,t,r=>eR q.1 (Kl q t-1) (DV q a-1)::Mq l (DV q a) (Kl q t) r
abbrev Md:List Mt->Nat->List Value
  | [],_=>[]
  |q::l,a=>.int q.2.2.2.1 0::.int 4 0::.ref (DV q a-2)::Md l (DV q a)
@[reducible]def It:Type:=(Params->List Obj)×List (Params->DictEntry)×List Value
abbrev iF (a t i:Nat)(m:Str×Nat)(x:Str)(l:List Str)(ln n:Nat)(d:List (Obj×Nat):=[]):It:=(λ_=>Mv a t (top i) m (x,x,l,ln,n,d),eR x (Kl (x,x,l,ln,n,d) t-1) (DV (x,x,l,ln,n,d) a-1)::[],.int ln 0::.int 0 0::.ref (DV (x,x,l,ln,n,d) a-2)::[])
abbrev iR (o:Params->List Obj):It:=(o,[],[])
abbrev iE (x:Str)(t:Nat)(v:Value):It:=(λ_=>[],[eV x t v],[])
abbrev iC (a T i:Nat)(m:Str×Nat)(x:Str)(ln:Nat)(ms:List Mt)(st:List Str)(sub:List Value:=[]) (br:Nat:=0) (mro:List Value:=[]) (w:String:=""):It:=
  let b:=Mx ms (a+7)
  let s:=Mw ms (T+12)
  let e:=s+st.length
  let h (z:List (Params->DictEntry)):=eF (T+11) ln (T+10)::Mq ms (a+7) (T+12) (eS e b::z)
  let o (y:List (Params->DictEntry)) (z k:Obj) (n:Nat) (r:List Obj) (P:Params):List Obj:=z::oP::oD P (eM (T+7) m.1 m.2::eQ (T+9) x (T+8)::h []) (4+ms.length)::o0::⟨.none,none,.fields (Array.mk (Md ms (a+7))),#[]⟩::oK x (T+2) ln (a+3)::oR (a+5) (a+2) m.1 m.2::Mm i m 0 ms (a+7) (T+12) ((match st with| []=>o0|_=>oS st s)::oD P (eM (T+7) m.1 m.2::h y) n::k::r) 0 0
  match br with
  |0=>(o [eR "__dict__" (e+2) (b+3),eR "__weakref__" (e+4) (b+4),eN (e+5)] o0 ⟨.type "type",none,.cls ⟨x,[.type "object"],[.ref (b+2),.type "object"],b+1,x,true,[],sub,false,none,false⟩,#[none,none,some (.str x T),some (.str x (T+8)),some (.builtin "object.__new__"),some (.bool true)]⟩ 4 [oG "__dict__" "function.__dict__" (.builtin "function.__dict__#set") (b+2) (e+1),oG "__weakref__" "ExceptionGroup.__weakref__" .none (b+2) (e+3),oU (b+2),oJ (b+2)],eR x (e+7) (b+2)::[],.int ln 0::.int 0 0::.ref (a+5)::[])
  |_=>(o [eN (e+1)] (oQ br) (oX x [.ref br] (.ref (b+2)::.ref br::mro) (b+1) sub a T (T+8) w) 2 [oU (b+2),oJ (b+2)],eR x (e+3) (b+2)::[],.int ln 0::.int 0 0::.ref (a+5)::[])
abbrev KA (P:Params)(nm:Str)(nt n:Nat)(l:List It):List Obj:=bo P 0::bo P 1::bo P 2::oD P (eV "__name__" 165 (.str nm nt)::eN 166::eV "__package__" 167 .none::eV "__loader__" 168 (.builtin "__main__.__loader__#opaque")::eV "__spec__" 169 .none::eR "__annotations__" 170 6::eR "__builtins__" 171 4::eV "__file__" 173 (.str "/claim/cut.py" 172)::eV "__cached__" 174 .none::l.flatMap (·.2.1)) n::bo P 4::bo P 5::bo P 6::bo P 7::bo P 8::bo P 9::bo P 10::o0::⟨.none,none,.fields (Array.mk (l.flatMap (·.2.2))),#[]⟩::oK "<module>" 182 1 11::oR 13 3 "__main__" 164::l.flatMap (·.1 P)
abbrev MO:Str×Nat:=("__main__",164)
abbrev EN:Str×Nat:=("haulbell.errors",194)
abbrev Mp:Str×Nat:=("haulbell.wholes",418)
abbrev Kt:Str×Nat:=("haulbell.boxes",436)
abbrev DZ:Str×Nat:=("haulbell.deeds",541)
abbrev xD:Str×Nat:=("haulbell.longs",791)
abbrev KO:Str×Nat:=("haulbell.machine",1045)
abbrev Mz:Str×Nat:=("haulbell.store",1188)
abbrev Ko:Str×Nat:=("haulbell.shadows",1305)
abbrev Ez:Str×Nat:=("haulbell.likeness",1395)
abbrev Fq:Str×Nat:=("haulbell.hops",1474)
abbrev cJ:Str×Nat:=("law_haulbell_k85_whole_parted",1536)
abbrev Ei (a T i:Nat)(m:Str×Nat)(x:Str)(ln:Nat)(ms:List Mt)(st:List Str)(sub:List Value:=[]):It:=iC a T i m x ln ms st sub 31 [.type "ValueError",.type "Exception",.type "BaseException",.type "object"] "ValueError.__new__"
abbrev xE (a T i:Nat)(m:Str×Nat)(x:Str)(ln:Nat)(ms:List Mt)(st:List Str)(sub:List Value:=[]):It:=iC a T i m x ln ms st sub 294 [.type "object"] "object.__new__"
abbrev Cy:List It:=
iF 15 187 0 MO "_wall" ["k"] 1 1::
iE "HaulError" 213 (.ref 31)::
iR (λP=>[⟨.type "tuple",none,.seq #[.type "ValueError"] 0,#[]⟩,oP,oD P [eM 203 "haulbell.errors" 194,eQ 205 "HaulError" 204,eF 207 5 206,eS 208 29] 4,o0,oN,oK "HaulError" 198 5 25,oR 27 24 "haulbell.errors" 194,o0,oD P [eM 203 "haulbell.errors" 194,eF 207 5 206,eS 208 29,eR "__weakref__" 210 32,eN 211] 3,oX "HaulError" [.type "ValueError"] [.ref 31,.type "ValueError",.type "Exception",.type "BaseException",.type "object"] 30 [.ref 51,.ref 70,.ref 89,.ref 108,.ref 127,.ref 146,.ref 165,.ref 184] 22 196 204 "ValueError.__new__",⟨.type "getset_descriptor",none,.fields #[.str "__weakref__" 209,.ref 31,.builtin "ExceptionGroup.__weakref__",.none],#[]⟩,oU 31,oJ 31])::
Ei 35 214 3 EN "NoStore" 7 [("__init__","NoStore.__init__",["self","at"],9,2,[])] ["at"]::
Ei 54 239 4 EN "Stop" 12 [("__init__","Stop.__init__",["self","deed","cell"],14,3,[])] ["cell","deed"]::
Ei 73 266 5 EN "NoFit" 18 [("__init__","NoFit.__init__",["self","box","number"],20,3,[])] ["box","number"]::
Ei 92 293 6 EN "NoBox" 24 [("__init__","NoBox.__init__",["self","box"],26,2,[])] ["box"]::
Ei 111 318 7 EN "NoDeed" 29 [("__init__","NoDeed.__init__",["self","word"],31,2,[])] ["word"]::
Ei 130 343 8 EN "NoRows" 34 [("__init__","NoRows.__init__",["self","at"],36,2,[])] ["at"]::
Ei 149 368 9 EN "NoPlace" 39 [("__init__","NoPlace.__init__",["self","at"],41,2,[])] ["at"]::
Ei 168 393 10 EN "NotBlind" 44 [("__init__","NotBlind.__init__",["self","at"],46,2,[])] ["at"]::
iE "BOUND" 421 (.int 1000000000 420)::
iF 187 422 13 Mp "is_whole" ["thing"] 51 1::
iF 194 429 14 Mp "is_content" ["thing"] 53 1::
iE "NAMES" 444 (.ref 201)::
iR (λ_=>[oS ["here","there","left","way","sign","met"] 438])::
iF 202 445 17 Kt "is_box" ["thing"] 57 1::
iF 209 452 18 Kt "is_number" ["thing"] 59 1::
iF 216 459 19 Kt "fits" ["box","thing"] 61 2::
iC 223 467 20 Kt "Boxes" 69 [("__init__","Boxes.__init__",["self","here","there","left","way","sign","met","handed","box","number"],71,7,[(⟨.type "tuple",none,.seq #[.int 0 479,.int 0 480,.int 0 481,.int 1 482,.int 0 483,.int 0 484] 0,#[]⟩,6)]),("holds","Boxes.holds",["self","box"],78,2,[]),("give","Boxes.give",["self","box","number"],83,3,[]),("told","Boxes.told",[],90,1,[]),("copied","Boxes.copied",["self","other"],93,1,[])] ["numbers"]::
iF 271 543 22 DZ "check_box" ["word","box"] 98 2::
iF 278 551 23 DZ "check_number" ["word","number"] 101 2::
iC 285 559 0 DZ "Deed" 104 [] [] [.ref 329,.ref 362,.ref 395,.ref 428,.ref 461,.ref 529,.ref 555,.ref 581,.ref 607,.ref 633,.ref 659,.ref 1031]::
xE 299 579 25 DZ "Set" 106 [("__init__","Set.__init__",["self","box","number"],108,3,[]),("step","Set.step",["self","boxes","store"],114,3,[]),("words","Set.words",["self"],118,1,[])] ["box","number"]::
xE 332 622 26 DZ "Add" 120 [("__init__","Add.__init__",["self","box","number"],122,3,[]),("step","Add.step",["self","boxes","store"],128,3,[]),("words","Add.words",["self"],132,1,[])] ["box","number"]::
xE 365 665 27 DZ "Take" 134 [("__init__","Take.__init__",["self","box","other"],136,3,[]),("step","Take.step",["self","boxes","store"],142,3,[]),("words","Take.words",["self"],146,1,[])] ["box","other"]::
xE 398 708 28 DZ "Read" 148 [("__init__","Read.__init__",["self","box"],150,2,[]),("step","Read.step",["self","boxes","store"],154,3,[]),("words","Read.words",["self"],158,1,[])] ["box"]::
xE 431 749 29 DZ "Write" 160 [("__init__","Write.__init__",["self","box"],162,2,[]),("step","Write.step",["self","boxes","store","number"],166,3,[]),("words","Write.words",["self"],173,1,[])] ["box"]::
iF 464 793 31 xD "more" ["boxes","box","by"] 176 3::
iF 471 802 32 xD "go_by_way" ["boxes","box"] 178 2::
iF 478 810 33 xD "less_left" ["boxes","by"] 180 2::
iF 485 818 34 xD "ask_put" ["store","cell"] 183 2::
iF 492 826 35 xD "haul" ["store","source","target","content"] 186 3::
iF 499 836 36 xD "exchange" ["store","one","other","first","second"] 189 3::
xE 506 847 37 xD "Copy" 196 [("step","Copy.step",["self","boxes","store"],198,3,[]),("words","Copy.words",["self"],206,1,[])] []::[]
abbrev j8:List It:=
xE 532 879 38 xD "Fill" 208 [("step","Fill.step",["self","boxes","store"],210,3,[]),("words","Fill.words",["self"],217,1,[])] []::
xE 558 911 39 xD "Seek" 219 [("step","Seek.step",["self","boxes","store"],221,3,[]),("words","Seek.words",["self"],232,1,[])] []::
xE 584 943 40 xD "Match" 234 [("step","Match.step",["self","boxes","store","content"],236,3,[]),("words","Match.words",["self"],249,1,[])] []::
xE 610 976 41 xD "Shift" 251 [("step","Shift.step",["self","boxes","store","left","here","there"],253,3,[]),("words","Shift.words",["self"],267,1,[])] []::
xE 636 1011 42 xD "Turn" 269 [("step","Turn.step",["self","boxes","store","left","here"],271,3,[]),("words","Turn.words",["self"],282,1,[])] []::
iE "MOST_ROWS" 1048 (.int 24 1047)::
iF 662 1049 45 KO "check_rows" ["rows","at","thing"] 286 1::
iF 669 1058 46 KO "check_place" ["at","many"] 292 2::
iF 676 1066 47 KO "tried" ["deed","boxes","store","stop","refusal"] 295 3::
iC 683 1077 48 KO "Machine" 302 [("__init__","Machine.__init__",["self","rows","store","boxes","at"],304,5,[(⟨.type "tuple",none,.seq #[.int 0 1089] 0,#[]⟩,1)]),("ended","Machine.ended",["self"],312,1,[]),("step_on","Machine.step_on",["self","store","by"],315,2,[]),("step","Machine.step",["self"],324,1,[]),("run","Machine.run",["self","most"],327,2,[]),("why","Machine.why",["self"],330,1,[]),("state","Machine.state",["self"],333,1,[]),("leaves","Machine.leaves",["self"],336,1,[]),("leave","Machine.leave",["self","low","behind","word"],339,4,[]),("rows","Machine.rows",[],342,1,[]),("copied","Machine.copied",["self"],345,1,[])] ["at","boxes","deeds","store"]::
iE "MOST_CELLS" 1191 (.int 60 1190)::
iF 773 1192 51 Mz "check_cells" ["cells","at","thing"] 349 1::
iC 780 1201 52 Mz "Store" 355 [("__init__","Store.__init__",["self","cells"],357,2,[]),("size","Store.size",["self"],362,1,[]),("told","Store.told",["self"],365,1,[]),("leaves","Store.leaves",["self"],368,1,[]),("leave","Store.leave",["self","low","behind","word"],371,4,[]),("may","Store.may",["self","deed","cell"],374,3,[]),("look","Store.look",["self","cell"],381,2,[]),("put","Store.put",["self","cell","content"],386,3,[]),("restore","Store.restore",["self","cell","content"],391,3,[]),("copied","Store.copied",["self","other"],394,1,[])] ["contents","permits"]::[]
abbrev Ii:List It:=
iF 864 1307 54 Ko "looks_for_its_way" ["deed"] 400 1::
iF 871 1314 55 Ko "check_blind" ["rows","at","deed"] 402 1::
iC 878 1323 56 Ko "Origins" 406 [("__init__","Origins.__init__",[],408,2,[]),("may","Origins.may",["self","deed","cell"],411,3,[]),("look","Origins.look",["self","cell"],414,2,[]),("put","Origins.put",["self","cell","thing"],419,3,[]),("told","Origins.told",["self"],424,1,[])] ["sources"]::
iF 925 1383 57 Ko "shadows" ["rows","boxes","size","machine","origins","told"] 426 3::
iF 932 1397 59 Ez "shadow_at" ["told","bell"] 436 2::
iF 939 1405 60 Ez "content_of" ["origin","cells"] 438 2::
iF 946 1413 61 Ez "first_box" ["one","other","at","box"] 440 2::
iF 953 1423 62 Ez "first_cell" ["one","other","cells","cell"] 445 3::
iF 960 1433 63 Ez "stores_to_try" ["size","stores","cell"] 450 1::
iF 967 1442 64 Ez "least_store" [] 455 2::
iF 972 1448 65 Ez "parted" ["bell","one","other","box","cells"] 457 3::
iF 979 1459 66 Ez "alike" ["one","other","boxes","size","first","second","bell","left","right"] 463 4::
iE "MOST_HOPPED" 1477 (.int 24 1476)::
iF 986 1478 69 Fq "is_many" ["thing"] 474 1::
iF 993 1485 70 Fq "is_on" ["thing"] 476 1::
xE 1000 1492 71 Fq "Hop" 478 [("__init__","Hop.__init__",["self","many","on"],480,3,[(⟨.type "tuple",none,.seq #[.none] 0,#[]⟩,0)]),("step","Hop.step",["self","boxes","store"],486,3,[]),("words","Hop.words",["self","told"],491,1,[])] ["many","on"]::
iF 1034 1538 73 cJ "_law_hand" ["_law_script","_law_cells_here","_law_fold","_law_cell"] 497 1::
iF 1041 1548 74 cJ "_law_draw" ["_law_hand_here","_law_many","_law_rest","_law_cell","_law_one","_law_two"] 503 2::
iF 1048 1560 75 cJ "_law_content" ["_law_hand_here","_law_way"] 519 1::
iF 1055 1568 76 cJ "_law_cells" [] 528 2::
iF 1060 1574 77 cJ "_law_spot" ["_law_hand_here","_law_many","_law_way"] 536 2::
iF 1067 1583 78 cJ "_law_six" ["_law_hand_here","_law_cells_here","_law_many","_law_way","_law_left","_law_sign","_law_here","_law_there"] 545 2::
iF 1074 1597 79 cJ "_law_spec" ["_law_hand_here","_law_size","_law_way","_law_names","_law_box","_law_pick"] 556 2::
iF 1081 1609 80 cJ "_law_deed" ["_law_spec_here","_law_word"] 574 1::
iF 1088 1617 81 cJ "_law_reach" ["_law_spec_here","_law_boxes_here","_law_here","_law_there","_law_left","_law_word","_law_far"] 593 2::
iF 1095 1630 82 cJ "_law_fits" ["_law_box","_law_number"] 610 2::
iF 1102 1638 83 cJ "_law_barred" ["_law_spec_here","_law_boxes_here","_law_size","_law_looks","_law_puts","_law_cell"] 618 3::
iF 1109 1650 84 cJ "_law_step" ["_law_spec_here","_law_boxes_here","_law_cells_here","_law_barred_here","_law_word","_law_number"] 629 3::
iF 1116 1662 85 cJ "_law_moved" ["_law_word","_law_boxes_here","_law_cells_here","_law_here","_law_there","_law_left","_law_way","_law_size","_law_content_here"] 650 3::
iF 1123 1677 86 cJ "_law_rows" [] 677 2::
iF 1128 1683 87 cJ "_law_boxes" ["_law_six_here"] 680 1::
iF 1135 1690 88 cJ "_law_run" ["_law_specs","_law_six_here","_law_cells_here","_law_boxes_here","_law_at_here","_law_told","_law_due"] 682 3::
iF 1142 1703 89 cJ "_law_twin" ["_law_hand_here","_law_specs","_law_size","_law_k","_law_way","_law_at_here","_law_other"] 694 3::
iF 1149 1716 90 cJ "_law_begun" ["_law_hand_here","_law_specs","_law_size","_law_ahead"] 711 3::
iF 1156 1726 91 cJ "_law_at" ["_law_told","_law_bell"] 717 2::
iF 1163 1734 92 cJ "_law_same_up_to" ["_law_first","_law_second","_law_bell","_law_k"] 719 3::
iF 1170 1744 93 cJ "_law_first_unlike" ["_law_left","_law_right","_law_box","_law_one","_law_other","_law_cell"] 724 2::
iF 1177 1756 94 cJ "_law_held" [] 732 5::[]
abbrev MG (P:Params):List Obj:=oW [(12,⟨.none,none,.fields #[.int 1 0,.int 0 0,.ref 20,.int 5 0,.int 0 0,.ref 27,.int 7 0,.int 0 0,.ref 40,.int 12 0,.int 0 0,.ref 59,.int 18 0,.int 0 0,.ref 78,.int 24 0,.int 0 0,.ref 97,.int 29 0,.int 0 0,.ref 116,.int 34 0,.int 0 0,.ref 135,.int 39 0,.int 0 0,.ref 154,.int 44 0,.int 0 0,.ref 173,.int 51 0,.int 0 0,.ref 192,.int 53 0,.int 0 0,.ref 199,.int 57 0,.int 0 0,.ref 207,.int 59 0,.int 0 0,.ref 214,.int 61 0,.int 0 0,.ref 221,.int 69 0,.int 0 0,.ref 228,.int 98 0,.int 0 0,.ref 276,.int 101 0,.int 0 0,.ref 283,.int 104 0,.int 0 0,.ref 290,.int 106 0,.int 0 0,.ref 304,.int 120 0,.int 0 0,.ref 337,.int 134 0,.int 0 0,.ref 370,.int 148 0,.int 0 0,.ref 403,.int 160 0,.int 0 0,.ref 436,.int 176 0,.int 0 0,.ref 469,.int 178 0,.int 0 0,.ref 476,.int 180 0,.int 0 0,.ref 483,.int 183 0,.int 0 0,.ref 490,.int 186 0,.int 0 0,.ref 497,.int 189 0,.int 0 0,.ref 504,.int 196 0,.int 0 0,.ref 511],#[]⟩),(294,⟨.type "type",none,.cls ⟨"Deed",[.type "object"],[.ref 294,.type "object"],293,"Deed",true,[],[.ref 329,.ref 362,.ref 395,.ref 428,.ref 461,.ref 529],false,none,false⟩,#[none,none,some (.str "Deed" 559),some (.str "Deed" 567),some (.builtin "object.__new__"),some (.bool true)]⟩)] (KA P "haulbell.longs" 791 42 Cy)
abbrev MW (P:Params):List Obj:=oW [(12,⟨.none,none,.fields #[.int 1 0,.int 0 0,.ref 20,.int 5 0,.int 0 0,.ref 27,.int 7 0,.int 0 0,.ref 40,.int 12 0,.int 0 0,.ref 59,.int 18 0,.int 0 0,.ref 78,.int 24 0,.int 0 0,.ref 97,.int 29 0,.int 0 0,.ref 116,.int 34 0,.int 0 0,.ref 135,.int 39 0,.int 0 0,.ref 154,.int 44 0,.int 0 0,.ref 173,.int 51 0,.int 0 0,.ref 192,.int 53 0,.int 0 0,.ref 199,.int 57 0,.int 0 0,.ref 207,.int 59 0,.int 0 0,.ref 214,.int 61 0,.int 0 0,.ref 221,.int 69 0,.int 0 0,.ref 228,.int 98 0,.int 0 0,.ref 276,.int 101 0,.int 0 0,.ref 283,.int 104 0,.int 0 0,.ref 290,.int 106 0,.int 0 0,.ref 304,.int 120 0,.int 0 0,.ref 337,.int 134 0,.int 0 0,.ref 370,.int 148 0,.int 0 0,.ref 403,.int 160 0,.int 0 0,.ref 436,.int 176 0,.int 0 0,.ref 469,.int 178 0,.int 0 0,.ref 476,.int 180 0,.int 0 0,.ref 483,.int 183 0,.int 0 0,.ref 490,.int 186 0,.int 0 0,.ref 497,.int 189 0,.int 0 0,.ref 504,.int 196 0,.int 0 0,.ref 511,.int 208 0,.int 0 0,.ref 537,.int 219 0,.int 0 0,.ref 563,.int 234 0,.int 0 0,.ref 589,.int 251 0,.int 0 0,.ref 615,.int 269 0,.int 0 0,.ref 641,.int 286 0,.int 0 0,.ref 667,.int 292 0,.int 0 0,.ref 674,.int 295 0,.int 0 0,.ref 681,.int 302 0,.int 0 0,.ref 688,.int 349 0,.int 0 0,.ref 778,.int 355 0,.int 0 0,.ref 785],#[]⟩),(294,⟨.type "type",none,.cls ⟨"Deed",[.type "object"],[.ref 294,.type "object"],293,"Deed",true,[],[.ref 329,.ref 362,.ref 395,.ref 428,.ref 461,.ref 529,.ref 555,.ref 581,.ref 607,.ref 633,.ref 659],false,none,false⟩,#[none,none,some (.str "Deed" 559),some (.str "Deed" 567),some (.builtin "object.__new__"),some (.bool true)]⟩)] (KA P "haulbell.store" 1188 55 (Cy++j8))
abbrev MI (P:Params):List Obj:=oW [(12,⟨.none,none,.fields #[.int 1 0,.int 0 0,.ref 20,.int 5 0,.int 0 0,.ref 27,.int 7 0,.int 0 0,.ref 40,.int 12 0,.int 0 0,.ref 59,.int 18 0,.int 0 0,.ref 78,.int 24 0,.int 0 0,.ref 97,.int 29 0,.int 0 0,.ref 116,.int 34 0,.int 0 0,.ref 135,.int 39 0,.int 0 0,.ref 154,.int 44 0,.int 0 0,.ref 173,.int 51 0,.int 0 0,.ref 192,.int 53 0,.int 0 0,.ref 199,.int 57 0,.int 0 0,.ref 207,.int 59 0,.int 0 0,.ref 214,.int 61 0,.int 0 0,.ref 221,.int 69 0,.int 0 0,.ref 228,.int 98 0,.int 0 0,.ref 276,.int 101 0,.int 0 0,.ref 283,.int 104 0,.int 0 0,.ref 290,.int 106 0,.int 0 0,.ref 304,.int 120 0,.int 0 0,.ref 337,.int 134 0,.int 0 0,.ref 370,.int 148 0,.int 0 0,.ref 403,.int 160 0,.int 0 0,.ref 436,.int 176 0,.int 0 0,.ref 469,.int 178 0,.int 0 0,.ref 476,.int 180 0,.int 0 0,.ref 483,.int 183 0,.int 0 0,.ref 490,.int 186 0,.int 0 0,.ref 497,.int 189 0,.int 0 0,.ref 504,.int 196 0,.int 0 0,.ref 511,.int 208 0,.int 0 0,.ref 537,.int 219 0,.int 0 0,.ref 563,.int 234 0,.int 0 0,.ref 589,.int 251 0,.int 0 0,.ref 615,.int 269 0,.int 0 0,.ref 641,.int 286 0,.int 0 0,.ref 667,.int 292 0,.int 0 0,.ref 674,.int 295 0,.int 0 0,.ref 681,.int 302 0,.int 0 0,.ref 688,.int 349 0,.int 0 0,.ref 778,.int 355 0,.int 0 0,.ref 785,.int 400 0,.int 0 0,.ref 869,.int 402 0,.int 0 0,.ref 876,.int 406 0,.int 0 0,.ref 883,.int 426 0,.int 0 0,.ref 930,.int 436 0,.int 0 0,.ref 937,.int 438 0,.int 0 0,.ref 944,.int 440 0,.int 0 0,.ref 951,.int 445 0,.int 0 0,.ref 958,.int 450 0,.int 0 0,.ref 965,.int 455 0,.int 0 0,.ref 970,.int 457 0,.int 0 0,.ref 977,.int 463 0,.int 0 0,.ref 984,.int 474 0,.int 0 0,.ref 991,.int 476 0,.int 0 0,.ref 998,.int 478 0,.int 0 0,.ref 1005,.int 497 0,.int 0 0,.ref 1039,.int 503 0,.int 0 0,.ref 1046,.int 519 0,.int 0 0,.ref 1053,.int 528 0,.int 0 0,.ref 1058,.int 536 0,.int 0 0,.ref 1065,.int 545 0,.int 0 0,.ref 1072,.int 556 0,.int 0 0,.ref 1079,.int 574 0,.int 0 0,.ref 1086,.int 593 0,.int 0 0,.ref 1093,.int 610 0,.int 0 0,.ref 1100,.int 618 0,.int 0 0,.ref 1107,.int 629 0,.int 0 0,.ref 1114,.int 650 0,.int 0 0,.ref 1121,.int 677 0,.int 0 0,.ref 1126,.int 680 0,.int 0 0,.ref 1133,.int 682 0,.int 0 0,.ref 1140,.int 694 0,.int 0 0,.ref 1147,.int 711 0,.int 0 0,.ref 1154,.int 717 0,.int 0 0,.ref 1161,.int 719 0,.int 0 0,.ref 1168,.int 724 0,.int 0 0,.ref 1175,.int 732 0,.int 0 0,.ref 1180],#[]⟩)] (KA P "law_haulbell_k85_whole_parted" 1536 93 (Cy++j8++Ii))
abbrev S0 (P:Params)(os:OsState):SharedT:=⟨HJ 0 .nil (MP P),15,(boot_heap P).life,Array.mk [],boot_drawn,187,os⟩
abbrev q0:Pos:=⟨0,0,0,0⟩
abbrev S1 (P:Params)(os:OsState):SharedT:=⟨HJ 0 .nil (MG P),532,(boot_heap P).life,Array.mk [],boot_drawn,879,os⟩
abbrev q1:Pos:=⟨196,0,207,23⟩
abbrev S2 (P:Params)(os:OsState):SharedT:=⟨HJ 0 .nil (MW P),864,(boot_heap P).life,Array.mk [],boot_drawn,1305,os⟩
abbrev q2:Pos:=⟨355,0,398,20⟩
abbrev S3 (P:Params)(os:OsState):SharedT:=⟨HJ 0 .nil (MI P),1182,(boot_heap P).life,Array.mk [],boot_drawn,1762,os⟩
abbrev q3:Pos:=⟨732,0,748,107⟩
abbrev MN (P:Params):List Obj:=KA P "law_haulbell_k85_whole_parted" 1536 94 (Cy++j8++Ii++[iF 1182 1762 95 cJ "law" [] 749 1])
abbrev K0 (P:Params):PySem.W.Frag:=KN.map λa=>(a,(MN P).getD a oN)
abbrev pQ (p:Program):Program:=PySem.W.view p [95]
abbrev yc:List Str:="_wall"::"HaulError"::"NoStore"::"Stop"::"NoFit"::"NoBox"::"NoDeed"::"NoRows"::"NoPlace"::"NotBlind"::"BOUND"::"is_whole"::"is_content"::"NAMES"::"is_box"::"is_number"::"fits"::"Boxes"::"check_box"::"check_number"::"Deed"::"Set"::"Add"::"Take"::"Read"::"Write"::"more"::"go_by_way"::"less_left"::"ask_put"::"haul"::"exchange"::"Copy"::"Fill"::"Seek"::"Match"::"Shift"::"Turn"::"MOST_ROWS"::"check_rows"::"check_place"::"tried"::"Machine"::"MOST_CELLS"::"check_cells"::"Store"::"looks_for_its_way"::"check_blind"::"Origins"::"shadows"::"shadow_at"::"content_of"::"first_box"::"first_cell"::"stores_to_try"::"least_store"::"parted"::"alike"::"MOST_HOPPED"::"is_many"::"is_on"::"Hop"::"_law_hand"::"_law_draw"::"_law_content"::"_law_cells"::"_law_spot"::"_law_six"::"_law_spec"::"_law_deed"::"_law_reach"::"_law_fits"::"_law_barred"::"_law_step"::"_law_moved"::"_law_rows"::"_law_boxes"::"_law_run"::"_law_twin"::"_law_begun"::"_law_at"::"_law_same_up_to"::"_law_first_unlike"::"_law_held"::[]
end My
open PySem PySem.W in
set_option maxHeartbeats 0 in
def My.GA (w:World)(os:OsState):My.runK treeTable My.pr w 11 (some (.ref 6)) 12 (My.Ks w.params os) (topStub My.pr)=some (My.S0 w.params os,⟨denote treeTable (.body (ac My.pr) (My.ir My.pr)),.body (ac My.pr) (My.ir My.pr),default,[My.Mi]⟩):=by
  delta My.pr;rewrite[Fast.te2368527892694137696,Fast.te14364793385576792824]
  kernel_rfl
open PySem PySem.W in
set_option maxHeartbeats 0 in
def My.GD (w:World)(os:OsState)(B:List Stmt):My.runK treeTable My.pr w 11 (some (.ref 6)) 5021 (My.S0 w.params os) (My.kD My.pr (((ac My.pr).drop 0).take 38++B) My.q0)=some (My.S1 w.params os,My.kD My.pr B My.q1):=by
  delta My.pr;rewrite[Fast.te2368527892694137696,Fast.te14364793385576792824]
  kernel_rfl
open PySem PySem.W in
set_option maxHeartbeats 0 in
def My.Hd (w:World)(os:OsState)(B:List Stmt):My.runK treeTable My.pr w 11 (some (.ref 6)) 2603 (My.S1 w.params os) (My.kD My.pr (((ac My.pr).drop 38).take 15++B) My.q1)=some (My.S2 w.params os,My.kD My.pr B My.q2):=by
  delta My.pr;rewrite[Fast.te2368527892694137696,Fast.te14364793385576792824]
  kernel_rfl
open PySem PySem.W in
set_option maxHeartbeats 0 in
def My.G9 (w:World)(os:OsState)(B:List Stmt):My.runK treeTable My.pr w 11 (some (.ref 6)) 1810 (My.S2 w.params os) (My.kD My.pr (((ac My.pr).drop 53).take 42++B) My.q2)=some (My.S3 w.params os,My.kD My.pr B My.q3):=by
  delta My.pr;rewrite[Fast.te2368527892694137696,Fast.te14364793385576792824]
  kernel_rfl
open PySem PySem.W in
set_option maxHeartbeats 0 in
def My.JW:LeftO My.pr (My.pQ My.pr) My.yc (λs=>xlAt (My.pQ My.pr) [] s&&recOk PySem.Challenge.rw_haulbell_k85_whole_parted.row.records s) (λs=>My.KN.map s.heap.get?) (λw=>(My.K0 w.params).map λp=>some p.2) 19046:=by
  refine My.vI (by kernel_rfl) rfl (λ_=>by kernel_rfl) (λ_=>by kernel_rfl) (λ_=>by kernel_rfl) λw os=>?_
  have d:denote treeTable (.body (ac My.pr) (My.ir My.pr))=My.Bp My.pr (ac My.pr):=My.yX (by kernel_rfl);have e:My.lh treeTable My.pr w 11 (some (.ref 6)) (12+(5021+(2603+(1810+(9600))))) (My.Ks w.params os) (topStub My.pr)=My.lh treeTable My.pr w 11 (some (.ref 6)) 9600 (My.S3 w.params os) (My.kD My.pr ((ac My.pr).drop 95) My.q3):=by
    rw[My.dc (My.GA w os)];dsimp only;rw[d];show My.lh treeTable My.pr w 11 (some (.ref 6)) _ (My.S0 w.params os) (My.kD My.pr ((ac My.pr).drop 0) My.q0)=_;rw[show (ac My.pr).drop 0=((ac My.pr).drop 0).take 38++(ac My.pr).drop 38 from by
      rw[show (ac My.pr).drop 38=((ac My.pr).drop 0).drop 38 by rw[List.drop_drop],List.take_append_drop],My.dc (My.GD w os _)]
    rw[show (ac My.pr).drop 38=((ac My.pr).drop 38).take 15++(ac My.pr).drop 53 from by
      rw[show (ac My.pr).drop 53=((ac My.pr).drop 38).drop 15 by rw[List.drop_drop],List.take_append_drop],My.dc (My.Hd w os _)]
    rw[show (ac My.pr).drop 53=((ac My.pr).drop 53).take 42++(ac My.pr).drop 95 from by
      rw[show (ac My.pr).drop 95=((ac My.pr).drop 53).drop 42 by rw[List.drop_drop],List.take_append_drop],My.dc (My.G9 w os _)]
  rw[show (19046:Nat)=12+(5021+(2603+(1810+(9600)))) from rfl,e]
  delta My.pr;rewrite[Fast.te4187177175401517315,Fast.te5923862056798008813,Fast.te2368527892694137696,Fast.te14364793385576792824]
  kernel_rfl
set_option Elab.async false
open List(mem_range filterMap_cons mem_cons_self mem_cons_of_mem mem_cons mem_append mem_append_left getElem?_set_self getElem?_set_ne mem_append_right size_toArray any_eq_false length_cons map_cons length_map append_nil nodup_cons of_mem_zip length_take getElem?_append_right getElem?_replicate getElem?_append_left getElem?_map take_sublist mem_of_getElem? length_append length_replicate length_drop length_set all_cons any_cons replicate_succ flatten_cons append_assoc foldl_cons length_singleton nil_append find?_cons length_nil forIn_cons forIn_nil getElem?_eq_getElem drop_zero lookup_cons take_of_length_le zipIdx_cons zipIdx_nil not_mem_nil length_zip set_comm all_eq_true length_eq_zero_iff length_range zip_cons_cons zip_append mem_of_mem_drop take_append_drop mem_of_mem_take isEmpty_iff mem_singleton getElem?_of_mem getElem?_eq_none map_append reverse_append map_take map_drop)
@[reducible]def M4:Type:=Option PySem.Value->PySem.Shared->Prop
@[reducible]def M5:Type:=Unit->PySem.Shared->Prop
@[reducible]def M6:Type:=PySem.Value->PySem.Shared->Prop
@[reducible]def M7:Type:=List (PySem.Addr×PySem.Obj)
@[reducible]def M8:Type:=PySem.Str->Option PySem.Value
namespace L2
open PySem PySem.Spec PyProof.Rows
@[reducible]def Key:=Sum Int Str
abbrev l9:Key->Value->Bool
 | .inl k,v=>Value.isInt k v
 | .inr x,v=>Value.isStrOf x v
abbrev Le (w:World):Key->Int
 | .inl k=>hashInt k
 | .inr x=>hashStr w x
def aM:∀ {k:Key}{v:Value},l9 k v=true->(∃ i t,k=Sum.inl i/\v=Value.int i t)\/(∃ x t,k=Sum.inr x/\v=Value.str x t)
 | .inl i,v,h=>by
  obtain ⟨t,e⟩:=Value.isInt_shape (k:=i) (v:=v) h;exact .inl ⟨i,t,rfl,e⟩
 | .inr x,v,h=>by
  obtain ⟨t,e⟩:=Value.isStrOf_shape (x:=x) (v:=v) h;exact .inr ⟨x,t,rfl,e⟩
def wu (i:Int)(t:Tok):l9 (.inl i) (.int i t)=true:=by simp[l9,Value.isInt]
def wF (x:Str)(t:Tok):l9 (.inr x) (.str x t)=true:=by simp[l9,Value.isStrOf]
def FJ (a b:Int):decide ((Sum.inl a:Key)=Sum.inl b)=(a ==b):=by
 by_cases e:a=b
 ·subst e;simp
 ·have h:¬ (Sum.inl a:Key)=Sum.inl b:=λq=>e (Sum.inl.inj q)
  rw[decide_eq_false h];exact (beq_eq_false_iff_ne.mpr e).symm
def GJ (a b:Str):decide ((Sum.inr a:Key)=Sum.inr b)=decide (a=b):=by
 by_cases e:a=b
 ·subst e;simp
 ·have h:¬ (Sum.inr a:Key)=Sum.inr b:=λq=>e (Sum.inr.inj q)
  rw[decide_eq_false h,decide_eq_false e]
def FY (a:Int)(b:Str):decide ((Sum.inl a:Key)=Sum.inr b)=false:=decide_eq_false (λq=>nomatch q)
def FN (a:Str)(b:Int):decide ((Sum.inr a:Key)=Sum.inl b)=false:=decide_eq_false (λq=>nomatch q)
abbrev ar (prog:Program)(w:World):PySem.KeyKind prog w Key where
 is:=l9
 hash:=Le w
 inj:=λv a b ha hb=>by
  rcases aM ha with ⟨i,t,rfl,rfl⟩|⟨x,t,rfl,rfl⟩
  ·rcases aM hb with ⟨j,u,rfl,e⟩|⟨y,u,rfl,e⟩
   ·injection e with e1 _;rw[e1]
   ·exact nomatch e
  ·rcases aM hb with ⟨j,u,rfl,e⟩|⟨y,u,rfl,e⟩
   ·exact nomatch e
   ·injection e with e1 _;rw[e1]
 byValue:=λk v h=>by
  rcases aM h with ⟨i,t,rfl,rfl⟩|⟨x,t,rfl,rfl⟩<;>rfl
 pyHash:=λhv h=>by
  rcases aM hv with ⟨i,t,rfl,rfl⟩|⟨x,t,rfl,rfl⟩
  ·exact wpAny_pyHash_int h
  ·exact wpAny_pyHash_str h
 eqBool:=λhu hv h=>by
  rcases aM hu with ⟨i,t,rfl,rfl⟩|⟨x,t,rfl,rfl⟩
  ·rcases aM hv with ⟨j,u,rfl,rfl⟩|⟨y,u,rfl,rfl⟩
   ·rw[FJ] at h;exact wpAny_eqBool_int h
   ·rw[FY] at h;exact SeqAt.EqAt.int_str i t y u _ _ _ _ h
  ·rcases aM hv with ⟨j,u,rfl,rfl⟩|⟨y,u,rfl,rfl⟩
   ·rw[FN] at h;exact SeqAt.EqAt.str_int x t j u _ _ _ _ h
   ·rw[GJ] at h;exact wpAny_eqBool_str h
 «strs»:=λk x t v h=>by
  rcases aM h with ⟨i,u,rfl,e⟩|⟨y,u,rfl,e⟩
  ·exact nomatch e
  ·injection e with e1 _
   subst e1;cases v<;>rfl
def qz (prog:Program)(w:World)(i:Int)(t:Tok):(ar prog w).is (.inl i) (.int i t)=true:=wu i t
def qS (prog:Program)(w:World)(x:Str)(t:Tok):(ar prog w).is (.inr x) (.str x t)=true:=wF x t
inductive V where
 |non|bl (b:Bool)|int (i:Int)|str (x:Str)|byt (b:Array UInt8)|flt (b:UInt64)|ref (a:Addr)|ty (n:String)
 deriving DecidableEq
abbrev RelV:V->Value->Prop
 | .non,u=>u=Value.none
 | .bl b,u=>u=Value.bool b
 | .int i,u=>∃ t,u=Value.int i t
 | .str x,u=>∃ t,u=Value.str x t
 | .byt b,u=>∃ t,u=Value.bytes b t
 | .flt b,u=>∃ t,u=Value.float b t
 | .ref a,u=>u=Value.ref a
 | .ty n,u=>u=Value.type n
@[reducible]def Vals:List V->List Value->Prop:=Paired RelV
variable {xs:List V}{us:List Value}
def Vals.length (r:Vals xs us):xs.length=us.length:=Paired.length r
def Vals.get:∀ {xs:List V}{us:List Value}{i:Nat}{x:V},Vals xs us->xs[i]? =some x->∃ u,us[i]? =some u/\RelV x u
 |_,_,_,_,.nil,e=>by simp at e
 |_,_,0,_,.cons r _,e=>by simp at e;subst e;exact ⟨_,rfl,r⟩
 |_,_,i+1,x,.cons _ t,e=>by
  obtain ⟨u,h1,h2⟩:=Vals.get (i:=i) (x:=x) t (by simpa using e);exact ⟨u,by simpa using h1,h2⟩
variable {u:Value}
def Vals.set {x:V}(r:RelV x u):∀ {xs:List V}{us:List Value}(i:Nat),Vals xs us->Vals (xs.set i x) (us.set i u)
 |_,_,_,.nil=>.nil
 |_,_,0,.cons _ t=>.cons r t
 |_,_,i+1,.cons q t=>.cons q (Vals.set r i t)
def Vals.append:∀ {xs ys:List V}{us ws:List Value},Vals xs us->Vals ys ws->Vals (xs++ys) (us++ws)
 |_,_,_,_,.nil,s=>s
 |_,_,_,_,.cons r t,s=>.cons r (Vals.append t s)
def Vals.take:∀ {xs:List V}{us:List Value}(n:Nat),Vals xs us->Vals (xs.take n) (us.take n)
 |_,_,0,_=>.nil
 |_,_,_+1,.nil=>.nil
 |_,_,n+1,.cons r t=>.cons r (Vals.take n t)
def Vals.drop:∀ {xs:List V}{us:List Value}(n:Nat),Vals xs us->Vals (xs.drop n) (us.drop n)
 |_,_,0,r=>r
 |_,_,_+1,.nil=>.nil
 |_,_,n+1,.cons _ t=>Vals.drop n t
abbrev cT:Option V->Option Value->Prop
 |some v,some u=>RelV v u
 |none,none=>True
 |_,_=>False
abbrev KV {κ:Type}:List (κ×V)->List (κ×Value)->Prop:=Paired λ(p:κ×V) (q:κ×Value)=>p.1=q.1/\RelV p.2 q.2
abbrev kV:Key->V
 | .inl i=>.int i
 | .inr x=>.str x
inductive HO where
  |lst (xs:List V)
  |tup (xs:List V)
  |dK (kvs:List (Key×V))|dT (kvs:List (List Key×V))
  |set (S:Int->Bool) (n:Nat)
  |ins (C dx:Addr) (fs:List (Str×V))
  |own (x:Addr)
  |exc (C:Addr) (dx:Option Addr) (fs:List (Str×V)) (fr:Bool)
  |xd (fs:List (Str×V))
  |met (f x:Addr)
  |rng (lo hi:Int)
  |frz (o:Obj) (u:HO)
  |tbl (ps:Array Value)
  |ext (φ:Heap->Prop)
@[reducible]def Hp:=Addr->Option HO
abbrev upd (H:Hp)(a:Addr)(o:HO):Hp:=λb=>if b=a then some o else H b
variable {H:Hp}{a:Addr}{o:HO}
def av:upd H a o a=some o:=by unfold upd;rw[if_pos rfl]
variable {b:Addr}
def ag (h:b≠a):upd H a o b=H b:=by unfold upd;rw[if_neg h]
def Ck {u:HO}:upd (upd H a o) a u=upd H a u:=by
 funext b;unfold upd;split<;>rfl
def Ka {u:HO}(h:H a=some o)(h':H b=some u)(d:o≠u):a≠b:=by
 intro e;subst e;rw[h] at h';exact d (Option.some.inj h')
def aP (h:H a=some o)(h':H b=none):a≠b:=by
 intro e;subst e;rw[h] at h';cases h'
section
variable (P:Program) (w:World)
abbrev ay (H:Hp)(h:Heap)(a:Addr):HO->Prop
 | .lst xs=>xs.length<=bn/\∃ (its:List Value) (n:Nat),Vals xs its/\h.get? a=some { cls:=.type "list",data:=.seq its.toArray n }
 | .tup xs=>xs.length<=bn/\∃ its:List Value,Vals xs its/\IsTup h a its.toArray
 | .dK kvs=>kvs.length<=bn/\(a ==sysModules)=false/\∃ vs,KV kvs vs/\h.DictOf (ar P w) a vs
 | .dT kvs=>kvs.length<=bn/\(a ==sysModules)=false/\∃ xs:List (List Key×Addr×Value),
   Paired (λ(p:List Key×V) (q:List Key×Addr×Value)=>p.1=q.1/\H q.2.1=some (.tup (p.1.map kV))/\RelV p.2 q.2.2) kvs xs/\
   ∃ o es ep,h.get? a=some o/\o.ExactDict/\o.data=.dict es ep/\es.toList=xs.map (entryOfKey (tupleKind (ar P w)))/\(xs.map (·.1)).Nodup
 | .set S n=>h.SetOf (intKind P w) a S n
 | .ins C dx fs=>H dx=some (.own a)/\fs.length<=1000/\dx≠a/\h.get? a=some (W.instObj C dx)/\
   ∃ mA,h.Ns1 dx mA/\(∀ f,cT (fs.lookup f) (mA f))/\PySem.Within mA (fs.map (·.1))
 | .exc C dx fs fr=>(∃ vs,h.get? a=some { cls:=.ref C,dict:=dx,data:=.fields vs }/\vs.size=6/\(fr=true->vs[1]? =some Value.none))/\
   ((dx=none/\fs=[])\/∃ d,dx=some d/\H d=some (.own a)/\fs.length<=1000/\d≠a/\∃ mA,h.Ns1 d mA/\(∀ f,cT (fs.lookup f) (mA f))/\PySem.Within mA (fs.map (·.1)))
 | .own _=>∃ o,h.get? a=some o
 | .xd fs=>∃ mA,h.Ns1 a mA/\∀ f,cT (fs.lookup f) (mA f)
 | .rng lo hi=>∃ t u v,h.get? a=some { cls:=.type "range",data:=.fields #[.int lo t,.int hi u,.int 1 v] }
 | .frz o u=>h.get? a=some o/\ay H h a u
 | .tbl ps=>h.get? a=some { cls:=.none,data:=.fields ps }
 | .met f x=>h.get? a=some (W.methodObj (.ref f) (.ref x))
 | .ext φ=>φ h/\(∃ o,h.get? a=some o)/\∀ h1 h2:Heap,φ h1->(∀ o,h1.get? a=some o->h2.get? a=some o)->φ h2
abbrev gq (H:Hp)(h:Heap):Prop:=∀ a o,H a=some o->ay P w H h a o
end
section
variable {P:Program}{w:World}{H H':Hp}{h h':Heap}{a:Addr}{o:HO}
def ay.lt (x:ay P w H h a o):a<h.objs.size:=by
 cases o with
 |lst xs=>obtain ⟨_,_,_,_,e⟩:=x;exact u8 e
 |tup xs=>obtain ⟨_,_,_,p⟩:=x;exact p.lt
 |dK kvs=>obtain ⟨_,_,_,_,o,_,_,e,_⟩:=x;exact u8 e
 |dT kvs=>obtain ⟨_,_,_,_,o,_,_,e,_⟩:=x;exact u8 e
 |set S n=>obtain ⟨o,_,_,_,e,_⟩:=x;exact u8 e
 |ins C dx fs=>obtain ⟨_,_,_,e,_⟩:=x;exact u8 e
 |exc C dx fs fr=>obtain ⟨⟨_,e,_⟩,_⟩:=x;exact u8 e
 |own y=>obtain ⟨_,e⟩:=x;exact u8 e
 |xd fs=>obtain ⟨_,⟨_,_,_,e,_⟩,_⟩:=x;exact u8 e
 |rng lo hi=>obtain ⟨_,_,_,e⟩:=x;exact u8 e
 |frz ob u=>obtain ⟨e,_⟩:=x;exact u8 e
 |tbl ps=>exact u8 (show h.get? a=some _ from x)
 |met f y=>exact u8 (show h.get? a=some _ from x)
 |ext φ=>obtain ⟨_,⟨_,e⟩,_⟩:=x;exact u8 e
def Paired.Fn {α β:Type}{F G:α->β->Prop}:∀ {l₁:List α}{l₂:List β},Paired F l₁ l₂->(∀ a b,F a b->G a b)->Paired G l₁ l₂
 |_,_,.nil,_=>.nil
 |_,_,.cons r t,f=>.cons (f _ _ r) (Paired.Fn t f)
def ay.jD (x:ay P w H h a o)(k:∀ b u,(b=a\/H b=some (.own a))->h.get? b=some u->h'.get? b=some u)
  (ho:∀ b,H b=some (.own a)->H' b=some (.own a)) (ht:∀ b xs,H b=some (.tup xs)->H' b=some (.tup xs)):ay P w H' h' a o:=by
 induction o with
 |lst xs=>obtain ⟨z,its,n,r,e⟩:=x;exact ⟨z,its,n,r,k _ _ (.inl rfl) e⟩
 |tup xs=>obtain ⟨z,its,r,ob,e,c⟩:=x;exact ⟨z,its,r,ob,k _ _ (.inl rfl) e,c⟩
 |dK kvs=>obtain ⟨z,y,vs,r,ob,es,ep,e,c⟩:=x;exact ⟨z,y,vs,r,ob,es,ep,k _ _ (.inl rfl) e,c⟩
 |dT kvs=>
  obtain ⟨z,y,xs,r,ob,es,ep,e,c⟩:=x;exact ⟨z,y,xs,Paired.Fn r λp q z=>⟨z.1,ht _ _ z.2.1,z.2.2⟩,ob,es,ep,k _ _ (.inl rfl) e,c⟩
 |set S n=>obtain ⟨ob,es,ep,t,e,c⟩:=x;exact ⟨ob,es,ep,t,k _ _ (.inl rfl) e,c⟩
 |ins C dx fs=>
  obtain ⟨d,z,ne,e,mA,⟨od,es,ep,e2,c⟩,r⟩:=x;exact ⟨ho _ d,z,ne,k _ _ (.inl rfl) e,mA,⟨od,es,ep,k _ _ (.inr d) e2,c⟩,r⟩
 |exc C dx fs fr=>
  obtain ⟨⟨vs,e,z⟩,q⟩:=x;refine ⟨⟨vs,k _ _ (.inl rfl) e,z⟩,?_⟩;rcases q with q|⟨d,ed,d1,z1,ne,mA,⟨od,es,ep,e2,c⟩,r⟩
  ·exact .inl q
  ·exact .inr ⟨d,ed,ho _ d1,z1,ne,mA,⟨od,es,ep,k _ _ (.inr d1) e2,c⟩,r⟩
 |own y=>obtain ⟨ob,e⟩:=x;exact ⟨ob,k _ _ (.inl rfl) e⟩
 |xd fs=>obtain ⟨mA,⟨od,es,ep,e,c⟩,r⟩:=x;exact ⟨mA,⟨od,es,ep,k _ _ (.inl rfl) e,c⟩,r⟩
 |rng lo hi=>obtain ⟨t,u,v,e⟩:=x;exact ⟨t,u,v,k _ _ (.inl rfl) e⟩
 |frz ob u ih=>obtain ⟨e,q⟩:=x;exact ⟨k _ _ (.inl rfl) e,ih q⟩
 |tbl ps=>
  have e:h.get? a=some { cls:=.none,data:=.fields ps }:=x;show h'.get? a=some { cls:=.none,data:=.fields ps };exact k a _ (.inl rfl) e
 |met f y=>
  have e:h.get? a=some (W.methodObj (.ref f) (.ref y)):=x;show h'.get? a=some (W.methodObj (.ref f) (.ref y));exact k a _ (.inl rfl) e
 |ext φ=>obtain ⟨p,⟨o,e⟩,st⟩:=x;exact ⟨st _ _ p λo q=>k _ _ (.inl rfl) q,⟨o,k _ _ (.inl rfl) e⟩,st⟩
def gq.lt (x:gq P w H h)(e:H a=some o):a<h.objs.size:=(x a o e).lt
def gq.fresh (x:gq P w H h)(e:h.objs.size<=a):H a=none:=by
 cases q:H a with
 |none=>rfl
 |some u=>exact absurd (nw (x.lt q) e) (Nat.lt_irrefl _)
def gq.kept (x:gq P w H h)(k:∀ b u,h.get? b=some u->h'.get? b=some u):gq P w H h':=λa o e=>
 (x a o e).jD (λb u _ q=>k b u q) (λ_ q=>q) λ_ _ q=>q
def gq.laid (x:gq P w H h)(k:∀ b u,h.get? b=some u->h'.get? b=some u) (hp:h.objs.size<=a) (new:ay P w (upd H a o) h' a o):gq P w (upd H a o) h':=λb u e=>by
 have hn:=x.fresh hp
 by_cases hb:b=a
 ·subst hb;rw[av] at e;cases e;exact new
 ·rw[ag hb] at e;exact (x b u e).jD (λc v _ q=>k c v q) (λc q=>by rw[ag (aP q hn)];exact q) λc xs q=>by rw[ag (aP q hn)];exact q
end
abbrev Rd (H:Hp)(a:Addr)(u:HO):Prop:=H a=some u\/∃ o,H a=some (.frz o u)
variable {P:Program}{w:World}{h:Heap}
def Rd.ok {u:HO}(r:Rd H a u)(x:gq P w H h):ay P w H h a u:=by
 rcases r with r|⟨o,r⟩
 ·exact x a u r
 ·obtain ⟨_,q⟩:=x a _ r;exact q
abbrev JU:Option HO->Prop
 |some (.lst _)=>True
 |some (.dK _)=>True
 |some (.dT _)=>True
 |some (.set _ _)=>True
 |some (.ins _ _ _)=>True
 |some (.exc _ _ _ _)=>True
 |some (.ext _)=>True
 |_=>False
section
variable {P:Program}{w:World}{H:Hp}{h h':Heap}{x e:Addr}{o':HO}
def gq.write (ok:gq P w H h)(mu:JU (H x))(he:e=x\/H e=some (.own x))(k:∀ b u,b≠e->h.get? b=some u->h'.get? b=some u) (heo:∃ u,h'.get? e=some u)
  (new:ay P w (upd H x o') h' x o'):gq P w (upd H x o') h':=λb u q=>by
 have nown:∀ c y,H c=some (.own y)->c≠x:=λc y r z=>by subst z;rw[r] at mu;exact mu
 have ntup:∀ c xs,H c=some (.tup xs)->c≠x:=λc xs r z=>by subst z;rw[r] at mu;exact mu
 by_cases hb:b=x
 ·subst hb;rw[av] at q;cases q;exact new
 ·rw[ag hb] at q
  by_cases hbe:b=e
  ·have q':H b=some (.own x):=by
    rcases he with z|z
    ·exact absurd (hbe.trans z) hb
    ·rw[hbe];exact z
   rw[q] at q';cases q';obtain ⟨v,hv⟩:=heo;exact ⟨v,by rw[hbe];exact hv⟩
  ·refine (ok b u q).jD (λc v hc r=>k c v ?_ r) (λc r=>by rw[ag (nown c b r)];exact r) λc xs r=>by rw[ag (ntup c xs r)];exact r
   rcases hc with rfl|hc
   ·exact hbe
   ·rintro rfl;rcases he with z|z
    ·exact nown c b hc z
    ·rw[hc] at z;cases z;exact hb rfl
end
structure Un (fs ex:List Addr) (H H':Hp) (h h':Heap):Prop where
 keep:∀ b o,h.get? b=some o->H b=none->b ∉ fs->b ∉ ex->h'.get? b=some o
 slot:∀ b o,h.get? b=some o->H b=none->b ∈ fs->b ∉ ex->∃ sl,h'.get? b=some { o with slots:=sl }
 free:∀ b o,h.get? b=some o->H b=none->b ∉ ex->H' b=none
 there:∀ b o,h.get? b=some o->b ∉ ex->∃ o',h'.get? b=some o'
 tups:∀ b xs,H b=some (.tup xs)->H' b=some (.tup xs)
 frzs:∀ b o u,H b=some (.frz o u)->H' b=some (.frz o u)
 tbls:∀ b ps,H b=some (.tbl ps)->∃ more,H' b=some (.tbl (ps++more))
section
variable {fs fs' ex ex':List Addr}{H H1 H2:Hp}{h h1 h2 h':Heap}{a x e:Addr}{o:HO}
def Un.any (u:Un fs ex H H1 h h1){ob:Obj}(q:h.get? b=some ob)(n:H b=none)(hx:b ∉ ex):∃ sl,h1.get? b=some { ob with slots:=sl }:=by
 by_cases hb:b ∈ fs
 ·exact u.slot b ob q n hb hx
 ·exact ⟨ob.slots,u.keep b ob q n hb hx⟩
def Un.kept (k:∀ b u,h.get? b=some u->h'.get? b=some u):Un fs ex H H h h':=
 ⟨λb ob q _ _ _=>k b ob q,λb ob q _ _ _=>⟨ob.slots,k b ob q⟩,λ_ _ _ n _=>n,λb ob q _=>⟨ob,k b ob q⟩,λ_ _ q=>q,λ_ _ _ q=>q,λ_ ps q=>⟨#[],by rw[q];simp⟩⟩
def Un.refl:Un fs ex H H h h:=Un.kept λ_ _ q=>q
def Un.laid (k:∀ b u,h.get? b=some u->h'.get? b=some u) (hp:h.objs.size<=a) (hn:H a=none):Un fs ex H (upd H a o) h h' where
 keep:=λb u q _ _ _=>k b u q
 slot:=λb u q _ _ _=>⟨u.slots,k b u q⟩
 free:=λb u q n _=>by rw[ag (pc (nw (u8 q) hp))];exact n
 there:=λb u q _=>⟨u,k b u q⟩
 tups:=λb xs q=>by rw[ag (aP q hn)];exact q
 frzs:=λb u xs q=>by rw[ag (aP q hn)];exact q
 tbls:=λb ps q=>⟨#[],by rw[ag (aP q hn),q];simp⟩
def Un.write (mu:JU (H x))(he:e=x\/H e=some (.own x))(k:∀ b u,b≠e->h.get? b=some u->h'.get? b=some u) (heo:∃ u,h'.get? e=some u):Un fs ex H (upd H x o) h h':=by
 have hx:∀ b,H b=none->b≠x:=λb n z=>by subst z;rw[n] at mu;exact mu
 have hb:∀ b,H b=none->b≠e:=λb n z=>by
  subst z;rcases he with r|r
  ·exact hx b n r
  ·rw[n] at r;cases r
 have hm:∀ b u,H b=some u->¬ JU (some u)->b≠x:=λb u q nm z=>by subst z;rw[q] at mu;exact nm mu
 refine ⟨λb u q n _ _=>k b u (hb b n) q,λb u q n _ _=>⟨u.slots,k b u (hb b n) q⟩,λb u q n _=>by rw[ag (hx b n)];exact n,λb u q _=>?_,
  λb xs q=>by rw[ag (hm b _ q λz=>z)];exact q,λb u xs q=>by rw[ag (hm b _ q λz=>z)];exact q,λb ps q=>⟨#[],by rw[ag (hm b _ q λz=>z),q];simp⟩⟩
 by_cases hbe:b=e
 ·subst hbe;exact heo
 ·exact ⟨u,k b u hbe q⟩
end
abbrev EA (h:Heap)(H:Hp):List Addr:=(List.range h.objs.size).filter λa=>(H a).isSome
abbrev pe (h:Heap)(H:Hp):Heap:=W.hideAll h (EA h H)
def vJ (h:Heap)(H:Hp):(pe h H).objs.size=h.objs.size:=W.hideAll_size _ _
def Aa {o:Obj}(e:h.get? b=some o)(n:H b=none):(pe h H).get? b=some o:=
 W.hideAll_get _ e λhm=>by
  have q:(H b).isSome=true:=(List.mem_filter.mp hm).2;rw[n] at q;simp at q
def Bm {o:Obj}(e:(pe h H).get? b=some o):h.get? b=some o/\H b=none:=by
 have e':h.get? b=some o:=W.of_hideAll (EA h H) e;refine ⟨e',?_⟩;cases q:H b with
 |none=>rfl
 |some x=>
  have hm:b ∈ EA h H:=List.mem_filter.mpr ⟨mem_range.mpr (u8 e'),by simp[q]⟩;have z:(pe h H).get? b=none:=W.hideAll_none (EA h H) hm;rw[z] at e;cases e
structure Mod (K:W.Frag) (mg:M8) (base:Heap):Prop where
 kin:K.In base
 glob:base.Ns mainGlobals mg
 blt:∃ mb,base.Ns builtinsNs mb/\∀ x:Str,x≠"__name__"->mb x=bootBuiltins x
 nolimit:base.NoLimit
/-- the context:a def's body (or a comprehension's block) running. base:fixed through the whole law;s₀,H₀:the entry;outer:the frames whose slots others may change (a def's callers);stack:all frames that run;
  ex:iterators that were made ahead of the entry and are walked here (a comprehension's);fn:the names whose cells were made at the entry (a def:all;a comprehension's block:its own);calm:not within an except bD;pn:Y that every state bears;xe:what is wanted of an exception that leaves the code -/
structure Cx where
 prog:Program
 w:World
 K:W.Frag
 mg:Str->Option Value
 base:Heap
 A:Around
 N:List Str
 s₀:Shared
 H₀:Hp
 env:Env
 outer:List Env
 stack:List Env
 ex:List Addr
 fn:Str->Bool
 calm:Bool
 pn:List (Addr×Obj)
 xe:Value->Shared->Prop
abbrev n6 (l:List Env):List Addr:=l.filterMap (·.frame)
noncomputable abbrev Cx.fs (X:Cx):List Addr:=n6 X.outer
abbrev KC (sc:Scope)(x:Str):Prop:=sc.names.lookup x=some .local\/sc.names.lookup x=some .cell\/sc.names.lookup x=some .free
abbrev Loc (sc:Scope)(x:Str):Prop:=sc.names.lookup x=some .local\/sc.names.lookup x=some .cell
abbrev Look (env:Env)(h:Heap)(m:M8)(x:Str)(u:Value):Prop:=
 (env.kindOf x=some .local/\m x=some u)\/((env.kindOf x=some .cell\/env.kindOf x=some .free)/\∃ c,env.cells.lookup x=some c/\h.IsCell c (some u))
structure Cx.Ok (X:Cx):Prop where
 mod:Mod X.K X.mg X.base
 kind:X.env.scope.kind=.function
 glob:X.env.globals=mainGlobals
 blt:X.env.builtins=builtinsNs
 above:X.s₀.heap.objs.size<=X.env.locals
 inj:∀ x y c,X.env.cells.lookup x=some c->X.env.cells.lookup y=some c->x=y
 has:∀ x,(X.env.kindOf x=some .cell\/X.env.kindOf x=some .free)->∃ c,X.env.cells.lookup x=some c
 cab:∀ x c,X.fn x=true->X.env.cells.lookup x=some c->X.s₀.heap.objs.size<=c
 hd:X.calm=true->X.A.handled=none
 frames:X.A.frames=some X.stack
 stk:X.stack=X.outer\/(X.stack=X.env::X.outer/\X.env.frame=some X.env.locals)
 exf:∀ b ∈ X.ex,b≠X.env.locals/\∀ x c,X.env.cells.lookup x=some c->c≠b
 bs:∀ b o,X.base.get? b=some o->X.s₀.heap.get? b=some o/\X.H₀ b=none
 bsz:X.base.objs.size<=X.s₀.heap.objs.size
 noex:∀ b o,X.base.get? b=some o->b ∉ X.ex
 exfs:∀ b ∈ X.ex,b ∉ X.fs
 jz:X.s₀.heap.FunFrames X.base X.outer
 frf:∀ b ∈ X.fs,X.H₀ b=none
structure Inv (X:Cx) (Y:M7) (U:List (Option V)) (H:Hp) (s:Shared):Prop where
 ok:X.Ok
 os:s.os=X.s₀.os
 bare:AllBare s.gens
 base:Un X.fs X.ex X.H₀ H X.s₀.heap s.heap
 loc:∃ m,s.heap.Ns X.env.locals m/\∀ (i:Nat) (x:Str) (v:V),X.N[i]? =some x->U[i]? =some (some v)->KC X.env.scope x->∃ u,RelV v u/\Look X.env s.heap m x u
 cell:∀ x c,X.env.cells.lookup x=some c->∃ v,s.heap.IsCell c v
 free:H X.env.locals=none
 freeC:∀ x c,X.env.cells.lookup x=some c->H c=none
 pin:∀ p ∈ X.pn++Y,s.heap.get? p.1=some p.2/\H p.1=none/\p.1≠X.env.locals/\p.1 ∉ X.fs/\∀ v,p.2.data≠.cell v
 hok:gq X.prog X.w H s.heap
 len:U.length=X.N.length
variable {x:Str}{g':Array GenState}{ch:List Addr}{i:Nat}{M:Model}{A:Around}{E:M6}{v:V}
section
variable {X:Cx}{Y:M7}{U:List (Option V)}{H H':Hp}{s:Shared}{h':Heap}
def Cx.Ok.Lz (ok:X.Ok){o:Obj}(e:X.base.get? b=some o):b ∉ X.fs:=λhb=>by
 have:=(ok.jz.mem hb).1;rw[e] at this;cases this
def Inv.bs (I:Inv X Y U H s):∀ b o,X.base.get? b=some o->s.heap.get? b=some o/\H b=none:=λb o e=>
 ⟨I.base.keep b o (I.ok.bs b o e).1 (I.ok.bs b o e).2 (I.ok.Lz e) (I.ok.noex b o e),I.base.free b o (I.ok.bs b o e).1 (I.ok.bs b o e).2 (I.ok.noex b o e)⟩
def Inv.bk (I:Inv X Y U H s):∀ b o,X.base.get? b=some o->s.heap.get? b=some o:=λb o e=>(I.bs b o e).1
def Inv.mod (I:Inv X Y U H s):Mod X.K X.mg X.base:=I.ok.mod
def Inv.bO (I:Inv X Y U H s):X.K.In s.heap:=I.ok.mod.kin.keeps I.bk
def Inv.lt (I:Inv X Y U H s):X.env.locals<s.heap.objs.size:=let ⟨_,hn,_⟩:=I.loc;hn.lt
def Inv.sz (I:Inv X Y U H s):X.s₀.heap.objs.size<=s.heap.objs.size:=Nat.le_trans I.ok.above (Nat.le_of_lt I.lt)
def Inv.Lo (I:Inv X Y U H s)(h:s.heap.objs.size<=a):a ∉ X.fs:=λhb=>by
 obtain ⟨_,o,ho,_⟩:=I.ok.jz.mem hb;exact absurd (nw (u8 ho) (Nat.le_trans I.sz h)) (Nat.lt_irrefl _)
def Inv.yV (I:Inv X Y U H s):∀ x c,X.env.cells.lookup x=some c->c≠X.env.locals:=λx c e z=>by
 obtain ⟨v,o,ho,hd⟩:=I.cell x c e;obtain ⟨m,⟨o',es,ep,ho',hd',_⟩,_⟩:=I.loc;rw[z,ho'] at ho;cases ho;rw[hd'] at hd;cases hd
def Inv.jz (I:Inv X Y U H s):s.heap.FunFrames X.base X.outer:=by
 have all:∀ (l:List Env),(∀ b ∈ n6 l,b ∈ X.fs)->X.s₀.heap.FunFrames X.base l->s.heap.FunFrames X.base l:=by
  intro l
  induction l with
  |nil=>intro _ _;trivial
  |cons env r ih=>
   intro hs hl;obtain ⟨hk,⟨L,o,hf,hn,ho,hd⟩,hr⟩:=hl;have hL:L ∈ X.fs:=hs L (by unfold n6;rw[filterMap_cons,hf];exact lv);obtain ⟨sl,e⟩:=I.base.slot L o ho (I.ok.frf L hL) hL λz=>I.ok.exfs L z hL
   exact ⟨hk,⟨L,_,hf,hn,e,hd⟩,ih (λb hb=>hs b (by unfold n6;rw[filterMap_cons,hf];exact dL _ hb)) hr⟩
 exact all X.outer (λ_ hb=>hb) I.ok.jz
def Inv.stack (I:Inv X Y U H s):s.heap.FunFrames X.base X.stack:=by
 rcases I.ok.stk with e|⟨e,hf⟩
 ·rw[e];exact I.jz
 ·rw[e];obtain ⟨m,hn,_⟩:=I.loc;refine .cons (by rw[I.ok.kind];decide) hf hn ?_ I.jz;exact Heap.get?_none_of_le (Nat.le_trans I.ok.bsz I.ok.above)
def Inv.iP (I:Inv X Y U H s):∀ b ∈ n6 X.stack,b ∈ X.env.locals::X.fs:=λb hb=>by
 rcases I.ok.stk with e|⟨e,hf⟩
 ·rw[e] at hb;exact dL _ hb
 ·rw[e] at hb;unfold n6 at hb;rw[filterMap_cons,hf] at hb;exact hb
def Inv.nO (I:Inv X Y U H s):∀ b ∈ n6 X.stack,H b=none:=λb hb=>by
 rcases lw.mp (I.iP b hb) with e|hb
 ·rw[e];exact I.free
 ·obtain ⟨_,o,ho,_⟩:=I.ok.jz.mem hb;exact I.base.free b o ho (I.ok.frf b hb) λz=>I.ok.exfs b z hb
def Inv.step {t':Nat}{d':Drawn}(I:Inv X Y U H s)
  (hch:∀ b ∈ ch,(b ∈ X.ex\/X.s₀.heap.objs.size<=b)/\b≠X.env.locals/\(∀ x c,X.env.cells.lookup x=some c->c≠b)/\∀ p ∈ X.pn++Y,p.1≠b)
  (keep:∀ b o,b≠X.env.locals->b ∉ X.fs->b ∉ ch->s.heap.get? b=some o->H b=none->h'.get? b=some o)
  (slot:∀ b o,b≠X.env.locals->b ∈ X.fs->b ∉ ch->s.heap.get? b=some o->H b=none->∃ sl,h'.get? b=some { o with slots:=sl }) (free:∀ b o,b ∉ ch->s.heap.get? b=some o->H b=none->H' b=none)
  (there:∀ b o,b ∉ ch->s.heap.get? b=some o->∃ o',h'.get? b=some o')
  (tups:∀ b xs,H b=some (.tup xs)->H' b=some (.tup xs)) (frzs:∀ b o u,H b=some (.frz o u)->H' b=some (.frz o u)) (tbls:∀ b ps,H b=some (.tbl ps)->∃ more,H' b=some (.tbl (ps++more)))
  (ns:∀ m,s.heap.Ns X.env.locals m->h'.Ns X.env.locals m) (hok:gq X.prog X.w H' h') (hg:AllBare g'):
  Inv X Y U H' { s with heap:=h',gens:=g',drawn:=d',toks:=t' }:=by
 have neL:∀ b o,X.s₀.heap.get? b=some o->b≠X.env.locals:=λb o e=>pc (nw (u8 e) I.ok.above)
 have neC:∀ b o,X.s₀.heap.get? b=some o->b ∉ X.ex->b ∉ ch:=λb o e hx hb=>by
  rcases (hch b hb).1 with z|z
  ·exact hx z
  ·exact absurd (nw (u8 e) z) (Nat.lt_irrefl _)
 have cellK:∀ x c,X.env.cells.lookup x=some c->∀ v,s.heap.IsCell c v->h'.IsCell c v:=λx c e v ⟨o,ho,hd⟩=>by
  have nch:c ∉ ch:=λz=>(hch c z).2.2.1 x c e rfl
  by_cases hc:c ∈ X.fs
  ·obtain ⟨sl,q⟩:=slot c o (I.yV x c e) hc nch ho (I.freeC x c e);exact ⟨_,q,hd⟩
  ·exact ⟨o,keep c o (I.yV x c e) hc nch ho (I.freeC x c e),hd⟩
 refine ⟨I.ok,I.os,hg,⟨λb o e n hb hx=>?_,λb o e n hb hx=>?_,λb o e n hx=>?_,λb o e hx=>?_,λb xs e=>tups b xs (I.base.tups b xs e),λb o xs e=>frzs b o xs (I.base.frzs b o xs e),λb ps e=>?_⟩,?_,λx c e=>?_,?_,λx c e=>?_,λp hp=>?_,hok,I.len⟩
 ·exact keep b o (neL b o e) hb (neC b o e hx) (I.base.keep b o e n hb hx) (I.base.free b o e n hx)
 ·obtain ⟨sl,e1⟩:=I.base.slot b o e n hb hx;obtain ⟨sl',e2⟩:=slot b _ (neL b o e) hb (neC b o e hx) e1 (I.base.free b o e n hx);exact ⟨sl',e2⟩
 ·obtain ⟨o',e1⟩:=I.base.there b o e hx;exact free b o' (neC b o e hx) e1 (I.base.free b o e n hx)
 ·obtain ⟨o',e1⟩:=I.base.there b o e hx;exact there b o' (neC b o e hx) e1
 ·obtain ⟨m1,e1⟩:=I.base.tbls b ps e;obtain ⟨m2,e2⟩:=tbls b _ e1;exact ⟨m1++m2,by rw[e2,Array.append_assoc]⟩
 ·obtain ⟨m,hn,hl⟩:=I.loc;refine ⟨m,ns m hn,λi x v e1 e2 e3=>?_⟩;obtain ⟨u,r,l⟩:=hl i x v e1 e2 e3;refine ⟨u,r,?_⟩;rcases l with l|⟨k,c,e,z⟩
  ·exact .inl l
  ·exact .inr ⟨k,c,e,cellK x c e _ z⟩
 ·obtain ⟨v,z⟩:=I.cell x c e;exact ⟨v,cellK x c e v z⟩
 ·obtain ⟨m,⟨o,_,_,ho,_⟩,_⟩:=I.loc;exact free _ o (λz=>(hch _ z).2.1 rfl) ho I.free
 ·obtain ⟨v,o,ho,hd⟩:=I.cell x c e;exact free c o (λz=>(hch c z).2.2.1 x c e rfl) ho (I.freeC x c e)
 ·obtain ⟨e,n,ne,nf,d⟩:=I.pin p hp;have nch:p.1 ∉ ch:=λz=>(hch p.1 z).2.2.2 p hp rfl
  exact ⟨keep p.1 p.2 ne nf nch e n,free p.1 p.2 nch e n,ne,nf,d⟩
def Inv.un {t':Nat}(I:Inv X Y U H s)(u:Un X.fs [] H H' s.heap h')(hok:gq X.prog X.w H' h'):Inv X Y U H' { s with heap:=h',toks:=t' }:=by
 obtain ⟨m,⟨o,es,ep,ho,r⟩,_⟩:=id I.loc;obtain ⟨sl,hL⟩:=u.any ho I.free (by simp);exact I.step (g':=s.gens) (d':=s.drawn) (ch:=[]) (λ_ z=>nomatch z) (λb o _ hb _ e n=>u.keep b o e n hb (by simp)) (λb o _ hb _ e n=>u.slot b o e n hb (by simp)) (λb o _ e n=>u.free b o e n (by simp)) (λb o _ e=>u.there b o e (by simp)) u.tups u.frzs u.tbls (λm' hm=>by
  obtain ⟨o',es',ep',ho',r'⟩:=hm;rw[ho] at ho';cases ho';exact ⟨_,es',ep',hL,r'⟩) hok I.bare
def Inv.call {t':Nat}{d':Drawn}(I:Inv X Y U H s)(u:Un (n6 X.stack) ch H H' s.heap h')(hok:gq X.prog X.w H' h')(hg:AllBare g')
  (hch:∀ b ∈ ch,(b ∈ X.ex\/X.s₀.heap.objs.size<=b)/\b≠X.env.locals/\(∀ x c,X.env.cells.lookup x=some c->c≠b)/\∀ p ∈ X.pn++Y,p.1≠b):
  Inv X Y U H' { s with heap:=h',gens:=g',drawn:=d',toks:=t' }:=by
 obtain ⟨m,⟨o,es,ep,ho,r⟩,_⟩:=id I.loc;obtain ⟨sl,hL⟩:=u.any ho I.free λz=>(hch _ z).2.1 rfl
 exact I.step (ch:=ch) hch (λb o hL hb hc e n=>u.keep b o e n (λz=>(lw.mp (I.iP b z)).elim hL hb) hc) (λb o _ _ hc e n=>u.any e n hc) (λb o hc e n=>u.free b o e n hc) (λb o hc e=>u.there b o e hc) u.tups u.frzs u.tbls (λm' hm=>by
  obtain ⟨o',es',ep',ho',r'⟩:=hm;rw[ho] at ho';cases ho';exact ⟨_,es',ep',hL,r'⟩) hok hg
def Inv.turned {t':Nat}{it:Addr}(I:Inv X Y U H s)(k:∀ b o,b≠it->s.heap.get? b=some o->h'.get? b=some o) (hn:H it=none) (hL:it≠X.env.locals)
  (h1:it ∈ X.ex\/X.s₀.heap.objs.size<=it) (h2:∀ x c,X.env.cells.lookup x=some c->c≠it) (h3:∀ p ∈ X.pn++Y,p.1≠it):Inv X Y U H { s with heap:=h',toks:=t' }:=by
 have nit:∀ b u,H b=some u->b≠it:=λb u e z=>by rw[z,hn] at e;cases e
 refine I.step (g':=s.gens) (d':=s.drawn) (ch:=[it]) (λb hb=>?_) (λb o _ _ hc e _=>k b o (λz=>hc (by simp[z])) e) (λb o _ _ hc e _=>⟨o.slots,k b o (λz=>hc (by simp[z])) e⟩) (λ_ _ _ _ n=>n)
  (λb o hc e=>⟨o,k b o (λz=>hc (by simp[z])) e⟩) (λ_ _ e=>e) (λ_ _ _ e=>e) (λb ps e=>⟨#[],by rw[e];simp⟩) (λm hm=>?_) (λb u e=>?_) I.bare
 ·have e:b=it:=by simpa using hb
  subst e;exact ⟨h1,hL,h2,h3⟩
 ·obtain ⟨o,es,ep,ho,r⟩:=hm;exact ⟨o,es,ep,k _ o (Ne.symm hL) ho,r⟩
 ·refine (I.hok b u e).jD (λc v hc q=>k c v ?_ q) (λ_ q=>q) λ_ _ q=>q
  rcases hc with z|z
  ·rw[z];exact nit b u e
  ·exact nit c _ z
def Inv.tok (I:Inv X Y U H s)(t:Nat):Inv X Y U H { s with toks:=t }:=I.un (h':=s.heap) (t':=t) Un.refl I.hok
def Inv.kept {t':Nat}(I:Inv X Y U H s)(k:∀ b u,s.heap.get? b=some u->h'.get? b=some u):Inv X Y U H { s with heap:=h',toks:=t' }:=I.un (Un.kept k) (I.hok.kept k)
def Inv.laid {t':Nat}(I:Inv X Y U H s)(k:∀ b u,s.heap.get? b=some u->h'.get? b=some u) (hp:s.heap.objs.size<=a) (new:ay X.prog X.w (upd H a o) h' a o):
  Inv X Y U (upd H a o) { s with heap:=h',toks:=t' }:=I.un (Un.laid k hp (I.hok.fresh hp)) (I.hok.laid k hp new)
def Inv.write {x e:Addr}{t':Nat}(I:Inv X Y U H s)(mu:JU (H x))(he:e=x\/H e=some (.own x))(k:∀ b u,b≠e->s.heap.get? b=some u->h'.get? b=some u) (heo:∃ u,h'.get? e=some u)
  (new:ay X.prog X.w (upd H x o) h' x o):Inv X Y U (upd H x o) { s with heap:=h',toks:=t' }:=I.un (Un.write mu he k heo) (I.hok.write mu he k heo new)
def Inv.oB {pins':M7}(I:Inv X Y U H s)(h:∀ p ∈ pins',s.heap.get? p.1=some p.2/\H p.1=none/\p.1≠X.env.locals/\p.1 ∉ X.fs/\∀ v,p.2.data≠.cell v):Inv X pins' U H s:=
 ⟨I.ok,I.os,I.bare,I.base,I.loc,I.cell,I.free,I.freeC,λp hp=>(mem_append.mp hp).elim (λz=>I.pin p (mem_append_left _ z)) (h p),I.hok,I.len⟩
def j9 {N:List Str}(hN:N.Nodup){j:Nat}(a:N[i]? =some x)(b:N[j]? =some x):i=j:=by
 obtain ⟨h1,e1⟩:=sK.mp a;obtain ⟨h2,e2⟩:=sK.mp b;exact (List.getElem_inj hN).mp (e1.trans e2.symm)
variable {Q:M5}
def lU (I:Inv X Y U H s)(hN:X.N.Nodup)(hi:X.N[i]? =some x)(hx:Loc X.env.scope x)(r:RelV v u)
  (h:∀ s',Inv X Y (U.set i (some v)) H s'->(∃ a,Heap.SameBut a s.heap s'.heap/\(a=X.env.locals\/X.env.cells.lookup x=some a))->Q () s') (hf:X.fn x=true\/X.env.scope.names.lookup x=some .local:=by first|exact .inl rfl|exact .inr rfl|assumption):wpAny M A (storeName X.env x u) Q E s:=by
 obtain ⟨m,hn,hl⟩:=id I.loc;have hcls:(X.env.scope.kind ==.class||(X.env.scope.kind ==.module&&X.env.locals != X.env.globals))=false:=by rw[I.ok.kind];rfl
 have hiσ:i<U.length:=by rw[I.len];exact (sK.mp hi).1
 have yV:=I.yV;have tracked:∀ {a:Addr}{h':Heap},(∃ o,s.heap.get? a=some o/\H a=none)->Heap.SameBut a s.heap h'->gq X.prog X.w H h':=λ{a h'} ha hs b ob e=>by
  obtain ⟨_,_,hfree⟩:=ha;refine (I.hok b ob e).jD (λc w' hc q=>(hs.2 c ?_).trans q) (λ_ q=>q) λ_ _ q=>q
  rintro rfl;rcases hc with rfl|hc
  ·rw[hfree] at e;cases e
  ·rw[hfree] at hc;cases hc
 rcases hx with hk|hk
 ·refine wpAny_storeName_local hk hn (λh' hn' hs=>?_) hcls;obtain ⟨oL,_,_,hoL,_⟩:=id hn;refine h _ ⟨I.ok,I.os,I.bare,⟨λb o e n hb hx=>?_,λb o e n hb hx=>?_,I.base.free,λb o e hx=>?_,I.base.tups,I.base.frzs,I.base.tbls⟩,⟨_,hn',λj y v' e1 e2 e3=>?_⟩,λy c e=>?_,I.free,I.freeC,λp hp=>?_,tracked ⟨oL,hoL,I.free⟩ hs,by simpa using I.len⟩ ⟨_,hs,.inl rfl⟩
  ·exact (hs.2 b (pc (nw (u8 e) I.ok.above))).trans (I.base.keep b o e n hb hx)
  ·obtain ⟨sl,e1⟩:=I.base.slot b o e n hb hx;exact ⟨sl,(hs.2 b (pc (nw (u8 e) I.ok.above))).trans e1⟩
  ·obtain ⟨o',e1⟩:=I.base.there b o e hx;exact ⟨o',(hs.2 b (pc (nw (u8 e) I.ok.above))).trans e1⟩
  ·by_cases hj:j=i
   ·subst hj;rw[hi] at e1;cases e1;rw[getElem?_set_self hiσ] at e2;cases e2;exact ⟨u,r,.inl ⟨hk,by simp⟩⟩
   ·rw[getElem?_set_ne (Ne.symm hj)] at e2;obtain ⟨u',r',q⟩:=hl j y v' e1 e2 e3;refine ⟨u',r',?_⟩;rcases q with ⟨k,e⟩|⟨k,c,e,z⟩
    ·refine .inl ⟨k,?_⟩;have:y≠x:=λe=>hj (j9 hN e1 (e▸hi))
     simp[this,e]
    ·exact .inr ⟨k,c,e,z.sameBut hs (yV y c e)⟩
  ·obtain ⟨w',z⟩:=I.cell y c e;exact ⟨w',z.sameBut hs (yV y c e)⟩
  ·obtain ⟨e,n,ne,nf,d⟩:=I.pin p hp;exact ⟨(hs.2 p.1 ne).trans e,n,ne,nf,d⟩
 ·have hfn:X.fn x=true:=by
   rcases hf with z|z
   ·exact z
   ·rw[z] at hk;cases hk
  obtain ⟨c,hc⟩:=I.ok.has x (.inl hk);obtain ⟨w',z⟩:=I.cell x c hc;refine wpAny_storeName_cell I.ok.kind hk hc z (λh' hc' hs=>?_);obtain ⟨oc,hoc,hocd⟩:=id z;refine h { s with heap:=h' } ⟨I.ok,I.os,I.bare,⟨λb o e n hb hx=>?_,λb o e n hb hx=>?_,I.base.free,λb o e hx=>?_,I.base.tups,I.base.frzs,I.base.tbls⟩,⟨m,hn.sameBut hs (Ne.symm (yV x c hc)),λj y v' e1 e2 e3=>?_⟩,λy c' e=>?_,I.free,I.freeC,λp hp=>?_,tracked ⟨oc,hoc,I.freeC x c hc⟩ hs,by simpa using I.len⟩ ⟨c,hs,.inr hc⟩
  ·exact (hs.2 b (pc (nw (u8 e) (I.ok.cab x c hfn hc)))).trans (I.base.keep b o e n hb hx)
  ·obtain ⟨sl,e1⟩:=I.base.slot b o e n hb hx;exact ⟨sl,(hs.2 b (pc (nw (u8 e) (I.ok.cab x c hfn hc)))).trans e1⟩
  ·obtain ⟨o',e1⟩:=I.base.there b o e hx;exact ⟨o',(hs.2 b (pc (nw (u8 e) (I.ok.cab x c hfn hc)))).trans e1⟩
  ·by_cases hj:j=i
   ·subst hj;rw[hi] at e1;cases e1;rw[getElem?_set_self hiσ] at e2;cases e2;exact ⟨u,r,.inr ⟨.inl hk,c,hc,hc'⟩⟩
   ·rw[getElem?_set_ne (Ne.symm hj)] at e2;obtain ⟨u',r',q⟩:=hl j y v' e1 e2 e3;refine ⟨u',r',?_⟩;rcases q with q|⟨k,c',e,z'⟩
    ·exact .inl q
    ·refine .inr ⟨k,c',e,z'.sameBut hs ?_⟩;rintro rfl;exact hj (j9 hN e1 (I.ok.inj _ _ _ e hc▸hi))
  ·by_cases hcc:c'=c
   ·subst hcc;exact ⟨_,hc'⟩
   ·obtain ⟨w2,z2⟩:=I.cell y c' e;exact ⟨w2,z2.sameBut hs hcc⟩
  ·obtain ⟨e,n,ne,nf,d⟩:=I.pin p hp;refine ⟨(hs.2 p.1 ?_).trans e,n,ne,nf,d⟩;intro q;rw[q,hoc] at e;have q':oc=p.2:=Option.some.inj e;exact d w' (by rw[<-q'];exact hocd)
def bJ (I:Inv X Y U H s)(hN:X.N.Nodup)(hi:X.N[i]? =some x)(hx:Loc X.env.scope x)(r:RelV v u)
  (h:∀ s',Inv X Y (U.set i (some v)) H s'->Q () s') (hf:X.fn x=true\/X.env.scope.names.lookup x=some .local:=by first|exact .inl rfl|exact .inr rfl|assumption):wpAny M A (storeName X.env x u) Q E s:=
 lU I hN hi hx r (λs' I' _=>h s' I') hf
def Inv.zu {s':Shared}(I:Inv X Y U H s)(ho:s'.os=s.os)(u:Un (n6 X.stack) ch H H' s.heap s'.heap)(hok:gq X.prog X.w H' s'.heap)(hg:AllBare s'.gens)
  (hch:∀ b ∈ ch,(b ∈ X.ex\/X.s₀.heap.objs.size<=b)/\b≠X.env.locals/\(∀ x c,X.env.cells.lookup x=some c->c≠b)/\∀ p ∈ X.pn++Y,p.1≠b):Inv X Y U H' s':=by
 obtain ⟨h',g',d',t',o'⟩:=s';have e:o'=s.os:=ho;subst e;exact I.call (g':=g') (t':=t') (d':=d') u hok hg hch
end
@[reducible]def XK:=Addr->Hp->Prop
@[reducible]def St:=List (Option V)
@[reducible]def VK:=V->Hp->Prop
@[reducible]def TE:=St->Hp->VK->Prop
@[reducible]def TT:=St->Hp->(Bool->Hp->Prop)->Prop
@[reducible]def TA:=St->Hp->(List V->Hp->Prop)->Prop
structure Ends where
 nx:St->Hp->Prop
 rt:VK
 bk:St->Hp->Prop:=λ_ _=>False
 ct:St->Hp->Prop:=λ_ _=>False
@[reducible]def TS:=Ends->St->Hp->Prop
abbrev EP (X:Cx)(Y:M7)(U:St)(Q:VK)(u:Value)(s':Shared):Prop:=∃ v H',Inv X Y U H' s'/\RelV v u/\Q v H'
abbrev TP (X:Cx)(Y:M7)(U:St)(Q:Bool->Hp->Prop)(b:Bool)(s':Shared):Prop:=∃ H',Inv X Y U H' s'/\Q b H'
abbrev AP (X:Cx)(Y:M7)(U:St)(Q:List V->Hp->Prop)(us:List Value)(s':Shared):Prop:=∃ vs H',Inv X Y U H' s'/\Vals vs us/\Q vs H'
abbrev SP (X:Cx)(Y:M7)(D:Ends)(f:Flow)(s':Shared):Prop:=
 match f with
 | .next=>∃ σ' H',Inv X Y σ' H' s'/\D.nx σ' H'
 | .brk=>∃ σ' H',Inv X Y σ' H' s'/\D.bk σ' H'
 | .cont=>∃ σ' H',Inv X Y σ' H' s'/\D.ct σ' H'
 | .ret u=>∃ v σ' H',Inv X Y σ' H' s'/\RelV v u/\D.rt v H'
abbrev PE (X:Cx)(e:Expr)(t:TE):Prop:=
 ∀ (Y:M7) (s:Shared) (U:St) (H:Hp) (Q:VK),Inv X Y U H s->t U H Q->wpAny (model X.prog X.w) X.A (eval e X.env) (EP X Y U Q) X.xe s
abbrev PT (X:Cx)(e:Expr)(t:TT):Prop:=
 ∀ (Y:M7) (s:Shared) (U:St) (H:Hp) (Q:Bool->Hp->Prop),Inv X Y U H s->t U H Q->wpAny (model X.prog X.w) X.A (isTrue e X.env (eval e X.env)) (TP X Y U Q) X.xe s
abbrev PW (X:Cx)(e:Expr)(t:TT):Prop:=
 ∀ (whole:Sem Value) (Y:M7) (s:Shared) (U:St) (H:Hp) (Q:Bool->Hp->Prop),Inv X Y U H s->t U H Q->wpAny (model X.prog X.w) X.A (isTrue e X.env whole) (TP X Y U Q) X.xe s
variable {e:Expr}
def PW.pt {X:Cx}{t:TT}(h:PW X e t):PT X e t:=h _
abbrev PA (X:Cx)(es:List Expr)(t:TA):Prop:=
 ∀ (pos:Pos) (Y:M7) (s:Shared) (U:St) (H:Hp) (Q:List V->Hp->Prop),Inv X Y U H s->t U H Q->wpAny (model X.prog X.w) X.A (spliced (backTo pos (bm es X.env))) (AP X Y U Q) X.xe s
abbrev PS (X:Cx)(st:Stmt)(t:TS):Prop:=
 ∀ (Y:M7) (s:Shared) (U:St) (H:Hp) (D:Ends),Inv X Y U H s->t D U H->wpAny (model X.prog X.w) X.A (exec st X.env) (SP X Y D) X.xe s
abbrev Cg (X:Cx)(st:List Stmt)(t:TS):Prop:=
 ∀ (Y:M7) (s:Shared) (U:St) (H:Hp) (D:Ends),Inv X Y U H s->t D U H->wpAny (model X.prog X.w) X.A (execs st X.env) (SP X Y D) X.xe s
variable {s:Shared}
def ax {α:Type}{t:Sem α}{Q Q':α->Shared->Prop}(h:wpAny M A t Q E s)(hQ:∀ a s,Q a s->Q' a s):wpAny M A t Q' E s:=wpAny_mono h hQ λ_ _ x=>x
variable {Q:M6}{Y:M7}{U:St}{c:Expr}
section
variable {X:Cx}
abbrev LP (i:Nat):TE:=λU H Q=>∃ v,U[i]? =some (some v)/\Q v H
abbrev tC (v:V):TE:=λ_ H Q=>Q v H
def Gy {pos:Pos}(hN:X.N[i]? =some x)(hv:KC X.env.scope x)(hd:(x ==("__debug__":Str))=false:=by decide) (hcd:(x ==("__classdict__":Str))=false:=by decide):PE X (.Name x pos) (LP i):=by
 intro Y s U H Q I h;obtain ⟨v,e,h⟩:=h;obtain ⟨m,hn,hl⟩:=I.loc;obtain ⟨u,r,l⟩:=hl i x v hN e hv;have fin:EP X Y U Q u s:=⟨v,H,I,r,h⟩;rcases l with ⟨hk,hm⟩|⟨hk,c,hc,hcell⟩
 ·exact wpAny_Name (wpAny_loadName_local I.ok.kind hk hn hm fin) hd
 ·rcases hk with hk|hk
  ·exact wpAny_Name (wpAny_loadName_cell I.ok.kind hk hc hcell fin) hd
  ·exact wpAny_Name (wpAny_loadName_free I.ok.kind hk hc hcell fin hcd) hd
def Fg {i j pos}:PE X (.Constant (.int i) j pos) (tC (.int i)):=λ_ _ _ H _ I h=>wpAny_Constant_int ⟨.int i,H,I.tok _,⟨_,rfl⟩,h⟩
def Ij {b j pos}:PE X (.Constant (.bool b) j pos) (tC (.bl b)):=λ_ _ _ H _ I h=>Constant_bool ⟨.bl b,H,I,rfl,h⟩
def Hy {j pos}:PE X (.Constant .none j pos) (tC .non):=λ_ _ _ H _ I h=>Constant_none ⟨.non,H,I,rfl,h⟩
def yE {x j pos}:PE X (.Constant (.str x) j pos) (tC (.str x)):=λ_ _ _ H _ I h=>Calls.Constant_str ⟨.str x,H,I.tok _,⟨_,rfl⟩,h⟩
abbrev Gl (X:Cx)(x:Str):Prop:=X.env.kindOf x=some .globalImplicit
def bE {pos:Pos}(I:Inv X Y U H s)(hg:Gl X x)(hm:X.mg x=some u)(h:Q u s)
  (hd:(x ==("__debug__":Str))=false:=by decide):wpAny (model X.prog X.w) X.A (eval (.Name x pos) X.env) Q E s:=
 Calls.Name_function_global I.ok.kind hg (Calls.loadGlobal_global (by rw[I.ok.glob];exact I.mod.glob.keeps I.bk) hm h) hd
def bN {pos:Pos}(I:Inv X Y U H s)(hg:Gl X x)(hm:X.mg x=none)(hv:bootBuiltins x=some u)(h:Q u s)
  (hn:x≠"__name__":=by decide) (hd:(x ==("__debug__":Str))=false:=by decide):wpAny (model X.prog X.w) X.A (eval (.Name x pos) X.env) Q E s:=by
 obtain ⟨mb,h1,h2⟩:=I.mod.blt;exact Calls.Name_function_global I.ok.kind hg (Calls.loadGlobal_builtin (by rw[I.ok.glob];exact I.mod.glob.keeps I.bk) hm (by rw[I.ok.blt];exact h1.keeps I.bk) ((h2 x hn).trans hv) h) hd
def ot {pos:Pos}(hg:Gl X x)(hm:X.mg x=some u)(r:RelV v u)(hd:(x ==("__debug__":Str))=false:=by decide):PE X (.Name x pos) (tC v):=
 λ_ _ _ H _ I h=>bE I hg hm ⟨v,H,I,r,h⟩ hd
def Bv {pos:Pos}(hg:Gl X x)(hm:X.mg x=none)(hv:bootBuiltins x=some u)(r:RelV v u)(hn:x≠"__name__":=by decide) (hd:(x ==("__debug__":Str))=false:=by decide):PE X (.Name x pos) (tC v):=
 λ_ _ _ H _ I h=>bN I hg hm hv ⟨v,H,I,r,h⟩ hn hd
variable {a b:Expr}{ta tb:TE}{pos:Pos}
variable {tA tB':TT}{rest:List Expr}
abbrev K5 (t u:TT):TT:=λU H Q=>t U H λc H1=>if c=true then u U H1 Q else Q false H1
abbrev MF (t u:TT):TT:=λU H Q=>t U H λc H1=>if c=true then Q true H1 else u U H1 Q
abbrev LW (t:TT):TT:=λU H Q=>t U H λc H1=>Q (!c) H1
def C9 (ha:PT X a tA):PW X (.BoolOp .And [a] pos) tA:=by
 intro wh Y s U H Q I h;refine isTrue_and (ax (ha Y s U H Q I h) λc s1 e=>?_);cases c with
 |true=>exact isTrue_and_nil e
 |false=>exact e
def Ff (ha:PT X a tA):PW X (.BoolOp .Or [a] pos) tA:=by
 intro wh Y s U H Q I h;refine isTrue_or (ax (ha Y s U H Q I h) λc s1 e=>?_);cases c with
 |false=>exact isTrue_or_nil e
 |true=>exact e
def Fp (ha:PT X a tA)(hb:PW X (.BoolOp .And (b::rest) pos) tB'):PW X (.BoolOp .And (a::b::rest) pos) (K5 tA tB'):=by
 intro wh Y s U H Q I h;refine isTrue_and (ax (ha Y s U H _ I h) λc s1 ⟨H1,I1,q1⟩=>?_);cases c with
 |true=>exact hb wh Y s1 U H1 Q I1 q1
 |false=>exact ⟨H1,I1,q1⟩
def IH (ha:PT X a tA)(hb:PW X (.BoolOp .Or (b::rest) pos) tB'):PW X (.BoolOp .Or (a::b::rest) pos) (MF tA tB'):=by
 intro wh Y s U H Q I h;refine isTrue_or (ax (ha Y s U H _ I h) λc s1 ⟨H1,I1,q1⟩=>?_);cases c with
 |true=>exact ⟨H1,I1,q1⟩
 |false=>exact hb wh Y s1 U H1 Q I1 q1
def GR (ha:PT X a tA):PT X (.UnaryOp .Not a pos) (LW tA):=by
 intro Y s U H Q I h;exact isTrue_not (ha Y s U H (λc H1=>Q (!c) H1) I h)
abbrev Iu (ta tb:TE):TE:=λU H Q=>ta U H λx H1=>∃ c,x=.bl c/\if c=true then tb U H1 Q else Q (.bl false) H1
abbrev LU (ta tb:TE):TE:=λU H Q=>ta U H λx H1=>∃ c,x=.bl c/\if c=true then Q (.bl true) H1 else tb U H1 Q
abbrev JY (ta:TE):TE:=λU H Q=>ta U H λx H1=>∃ c,x=.bl c/\Q (.bl (!c)) H1
def zW {op}{t:TE}(h:PE X a t):PE X (.BoolOp op [a] pos) t:=λY s U H Q I hw=>BoolOp_one (h Y s U H Q I hw)
def FL (ha:PE X a ta)(hb:PE X (.BoolOp .And (b::rest) pos) tb):PE X (.BoolOp .And (a::b::rest) pos) (Iu ta tb):=by
 intro Y s U H Q I h;refine BoolOp_and (ax (ha Y s U H _ I h) λv s1 ⟨x,H1,I1,r1,q1⟩=>?_);obtain ⟨c,rfl,q1⟩:=q1;cases r1;refine bi ?_;cases c with
 |true=>exact hb Y s1 U H1 Q I1 q1
 |false=>exact ⟨.bl false,H1,I1,rfl,q1⟩
def Iz (ha:PE X a ta)(hb:PE X (.BoolOp .Or (b::rest) pos) tb):PE X (.BoolOp .Or (a::b::rest) pos) (LU ta tb):=by
 intro Y s U H Q I h;refine BoolOp_or (ax (ha Y s U H _ I h) λv s1 ⟨x,H1,I1,r1,q1⟩=>?_);obtain ⟨c,rfl,q1⟩:=q1;cases r1;refine bi ?_;cases c with
 |false=>exact hb Y s1 U H1 Q I1 q1
 |true=>exact ⟨.bl true,H1,I1,rfl,q1⟩
def HG (ha:PE X a ta):PE X (.UnaryOp .Not a pos) (JY ta):=by
 intro Y s U H Q I h;refine UnaryOp_ (ax (ha Y s U H _ I h) λv s1 ⟨x,H1,I1,r1,q1⟩=>?_);obtain ⟨c,rfl,q1⟩:=q1;cases r1;exact not_of (bi ⟨.bl (!c),H1,I1,rfl,q1⟩)
abbrev MJ (t:TT)(ta tb:TE):TE:=λU H Q=>t U H λc H1=>if c=true then ta U H1 Q else tb U H1 Q
def yz (hc:PT X c tA)(ha:PE X a ta)(hb:PE X b tb):PE X (.IfExp c a b pos) (MJ tA ta tb):=by
 intro Y s U H Q I h;refine wpAny_IfExp (ax (hc Y s U H _ I h) λd s1 ⟨H1,I1,q1⟩=>?_);cases d with
 |true=>exact ha Y s1 U H1 Q I1 q1
 |false=>exact hb Y s1 U H1 Q I1 q1
end
abbrev bc (K:W.Frag)(H:Hp)(a:Addr)(xs:List V):Prop:=
 Rd H a (.lst xs)\/
  ∃ (o:Obj) (its:Array Value) (n:Nat),K.lookup a=some o/\o.cls=.type "list"/\o.dict=none/\o.data=.seq its n/\its.size<=bn/\Vals xs its.toList
abbrev aS (K:W.Frag)(H:Hp)(a:Addr)(xs:List V):Prop:=
 Rd H a (.tup xs)\/
  ∃ (o:Obj) (its:Array Value) (n:Nat),K.lookup a=some o/\o.cls=.type "tuple"/\o.data=.seq its n/\its.size<=bn/\Vals xs its.toList
abbrev Lw:Value->Option V
 | .none=>some .non
 | .bool b=>some (.bl b)
 | .int i _=>some (.int i)
 | .str x _=>some (.str x)
 | .bytes b _=>some (.byt b)
 | .float b _=>some (.flt b)
 | .ref a=>some (.ref a)
 | .type n=>some (.ty n)
 |_=>none
def RelV.abs {x:V}(r:RelV x u):Lw u=some x:=by
 cases x with
 |non=>cases r;rfl
 |bl _=>cases r;rfl
 |int _=>obtain ⟨t,rfl⟩:=r;rfl
 |str _=>obtain ⟨t,rfl⟩:=r;rfl
 |byt _=>obtain ⟨t,rfl⟩:=r;rfl
 |flt _=>obtain ⟨t,rfl⟩:=r;rfl
 |ref _=>cases r;rfl
 |ty _=>cases r;rfl
def RelV.inj {x y:V}(r:RelV x u)(q:RelV y u):x=y:=Option.some.inj (r.abs.symm.trans q.abs)
def Vals.inj:∀ {xs ys:List V}{us:List Value},Vals xs us->Vals ys us->xs=ys
 |_,_,_,.nil,.nil=>rfl
 |_,_,_,.cons r t,.cons r' t'=>by rw[r.inj r',Vals.inj t t']
variable {K:W.Frag}
section
variable {X:Cx}{Y:M7}{U:St}{H:Hp}{s:Shared}{a:Addr}{xs ys:List V}
def bc.of (h:H a=some (.lst xs)):bc K H a xs:=.inl (.inl h)
def aS.of (h:H a=some (.tup xs)):aS K H a xs:=.inl (.inl h)
def Inv.list (I:Inv X Y U H s)(h:bc X.K H a xs):∃ its:List Value,Vals xs its/\PlainL s.heap a its.toArray/\xs.length<=bn:=by
 rcases h with h|⟨o,its,n,hk,hc,hd,hs,hz,r⟩
 ·obtain ⟨z,its,n,r,e⟩:=h.ok I.hok;exact ⟨its,r,⟨_,n,e,rfl,rfl,rfl⟩,z⟩
 ·refine ⟨its.toList,r,⟨o,n,I.bO a o hk,hc,hd,by simpa using hs⟩,?_⟩;have e:=r.length;simp only[Array.length_toList] at e
  omega
def Inv.tuple (I:Inv X Y U H s)(h:aS X.K H a xs):∃ its:List Value,Vals xs its/\IsTup s.heap a its.toArray/\xs.length<=bn:=by
 rcases h with h|⟨o,its,n,hk,hc,hs,hz,r⟩
 ·obtain ⟨z,its,r,p⟩:=h.ok I.hok;exact ⟨its,r,p,z⟩
 ·refine ⟨its.toList,r,⟨o,I.bO a o hk,hc,n,by simpa using hs⟩,?_⟩;have e:=r.length;simp only[Array.length_toList] at e
  omega
def Inv.kS (I:Inv X Y U H s)(h:bc X.K H a xs)(h':bc X.K H a ys):xs=ys:=by
 obtain ⟨its,r,⟨o,n,e,_,_,d⟩,_⟩:=I.list h;obtain ⟨its',r',⟨o',n',e',_,_,d'⟩,_⟩:=I.list h';rw[e] at e';cases e';rw[d] at d'
 injection d' with d1 _
 have:its=its':=by simpa using congrArg Array.toList d1
 subst this;exact r.inj r'
def Inv.fq (I:Inv X Y U H s)(h:aS X.K H a xs)(h':aS X.K H a ys):xs=ys:=by
 obtain ⟨its,r,⟨o,e,_,n,d⟩,_⟩:=I.tuple h;obtain ⟨its',r',⟨o',e',_,n',d'⟩,_⟩:=I.tuple h';rw[e] at e';cases e';rw[d] at d'
 injection d' with d1 _
 have:its=its':=by simpa using congrArg Array.toList d1
 subst this;exact r.inj r'
end
section
variable {X:Cx}{Y:M7}{U:St}{H:Hp}{s:Shared}{E:M6}
end
section
variable {X:Cx}{st:Stmt}{rest:List Stmt}{t u:TS}{e:Expr}{te:TE}{pos:Pos}
abbrev IP:TS:=λD U H=>D.nx U H
abbrev LA (t u:TS):TS:=λD U H=>t { D with nx:=u D } U H
def CI:Cg X [] IP:=λ_ _ U H _ I h=>wpAny_execs_nil ⟨U,H,I,h⟩
def ya (h1:PS X st t)(h2:Cg X rest u):Cg X (st::rest) (LA t u):=by
 intro Y s U H D I h;refine wpAny_execs_cons (ax (h1 Y s U H { D with nx:=u D } I h) λf s1 q=>?_);cases f with
 |next=>
  obtain ⟨σ',H',I',q⟩:=q;exact h2 Y s1 σ' H' D I' q
 |ret v=>exact q
 |brk=>exact q
 |cont=>exact q
def Inv.quiet (I:Inv X Y U H s):interactive X.env=false:=by simp[interactive,I.ok.kind]
abbrev IV (te:TE):TS:=λD U H=>te U H λ_ H1=>D.nx U H1
def By (he:PE X e te)(hs:swapsWith e none pos.line X.env=pure false:=by rfl):PS X (.Expr e pos) (IV te):=by
 intro Y s U H D I h;exact wpAny_Expr_any (ax (he Y s U H _ I h) λv s1 ⟨x,H1,I1,r1,q1⟩=>⟨U,H1,I1,q1⟩) I.quiet hs
abbrev KR (te:TE):TS:=λD U H=>te U H D.rt
def Hl (he:PE X e te):PS X (.Return (some e) pos) (KR te):=by
 intro Y s U H D I h;exact wpAny_Return_some (ax (he Y s U H _ I h) λv s1 ⟨x,H1,I1,r1,q1⟩=>⟨x,U,H1,I1,r1,q1⟩)
abbrev Ld (c:TT)(t u:TS):TS:=λD U H=>c U H λb H1=>if b=true then t D U H1 else u D U H1
def Jb {a b:List Stmt}{tc:TT}(hc:PT X c tc)(ha:Cg X a t)(hb:Cg X b u):PS X (.If c a b pos) (Ld tc t u):=by
 intro Y s U H D I h;refine wpAny_If (ax (hc Y s U H _ I h) λd s1 ⟨H1,I1,q1⟩=>?_);cases d with
 |true=>exact ha Y s1 U H1 D I1 q1
 |false=>exact hb Y s1 U H1 D I1 q1
end
@[reducible]def TG:=V->St->Hp->(St->Hp->Prop)->Prop
@[reducible]def CF:=List V->St->Hp->(St->Hp->Prop)->Prop
abbrev PG (X:Cx)(target:Expr)(t:TG):Prop:=
 ∀ (Y:M7) (s:Shared) (U:St) (H:Hp) (v:V) (u:Value) (Q:St->Hp->Prop),Inv X Y U H s->RelV v u->t v U H Q->
  wpAny (model X.prog X.w) X.A (assign target X.env u) (λ_ s'=>∃ σ' H',Inv X Y σ' H' s'/\Q σ' H') X.xe s
abbrev E7 (X:Cx)(ts:List Expr)(t:CF):Prop:=
 ∀ (Y:M7) (s:Shared) (U:St) (H:Hp) (vs:List V) (us:List Value) (Q:St->Hp->Prop),Inv X Y U H s->Vals vs us->t vs U H Q->
  wpAny (model X.prog X.w) X.A (assignInOrder ((assignEach ts X.env).map (·.2)) us) (λ_ s'=>∃ σ' H',Inv X Y σ' H' s'/\Q σ' H') X.xe s
@[reducible]def vQ:=V->V->V->Hp->(Hp->Prop)->Prop
abbrev B1 (X:Cx)(t:vQ):Prop:=
 ∀ (Y:M7) (s:Shared) (U:St) (H:Hp) (o i v:V) (ov iv u:Value) (Q:Hp->Prop),Inv X Y U H s->RelV o ov->RelV i iv->RelV v u->t o i v H Q->
  wpAny (model X.prog X.w) X.A (setItem ov iv u) (λ_ s'=>∃ H',Inv X Y U H' s'/\Q H') X.xe s
@[reducible]def KG:=V->V->Hp->VK->Prop
abbrev Ku (X:Cx)(op:Operator)(t:KG):Prop:=
 ∀ (Y:M7) (s:Shared) (U:St) (H:Hp) (x y:V) (v u:Value) (Q:VK),Inv X Y U H s->RelV x v->RelV y u->t x y H Q->
  wpAny (model X.prog X.w) X.A (inplaceOp op v u) (EP X Y U Q) X.xe s
variable {es:List Expr}{k:Nat}{tg:Expr}{te:TE}
section
variable {X:Cx}{pos:Pos}
abbrev gX (i:Nat):TG:=λv U H Q=>Q (U.set i (some v)) H
def gx (hN:X.N.Nodup)(hi:X.N[i]? =some x)(hx:Loc X.env.scope x)(hf:X.fn x=true\/X.env.scope.names.lookup x=some .local:=by first|exact .inl rfl|exact .inr rfl|assumption):PG X (.Name x pos) (gX i):=by
 intro Y s U H v u Q I r h;exact wpAny_assign_Name (bJ I hN hi hx r (λs' I'=>⟨_,H,I',h⟩) hf)
abbrev Ls:CF:=λvs U H Q=>vs=[]/\Q U H
abbrev JV (t:TG)(u:CF):CF:=λvs U H Q=>∃ v r,vs=v::r/\t v U H λσ' H'=>u r σ' H' Q
def nv:E7 X [] Ls:=by
 intro Y s U H vs us Q I r h;obtain ⟨e,h⟩:=h;subst e;cases r;exact assignInOrder_nil ⟨U,H,I,h⟩
def gG {t:TG}{u:CF}(h1:PG X e t)(h2:E7 X es u)
  (hs:(assignEach (e::es) X.env).map (·.2)=assign e X.env::(assignEach es X.env).map (·.2):=by rfl):E7 X (e::es) (JV t u):=by
 intro Y s U H vs us Q I r h;obtain ⟨v,vr,e1,h⟩:=h;subst e1;cases r with
 |cons r rr=>
  rw[hs];refine assignInOrder_cons (ax (h1 Y s U H _ _ _ I r h) λ_ s1 ⟨σ1,H1,I1,q1⟩=>?_);exact h2 Y s1 σ1 H1 _ _ Q I1 rr q1
abbrev CK (K:W.Frag)(n:Nat)(t:CF):TG:=λv U H Q=>∃ a xs,v=.ref a/\aS K H a xs/\xs.length=n/\t xs U H Q
def oO {t:CF}{n:Nat}(hc:X.calm=true)(h:E7 X es t)
  (hn:(assignEach es X.env).length=n:=by rfl) (hst:(assignEach es X.env).findIdx? (·.1)=none:=by rfl):PG X (.Tuple es k pos) (CK X.K n t):=by
 intro Y s U H v u Q I r hw;obtain ⟨a,xs,e1,hq,hl,hw⟩:=hw;subst e1;cases r;obtain ⟨its,rv,ht,hz⟩:=I.tuple hq;refine assign_Tuple_tuple (I.ok.hd hc) ht (by simp[hn,<-hl,rv.length]) hst λh' hx=>?_
 have I1:Inv X Y U H { s with heap:=h' }:=I.kept (t':=s.toks) λb o e=>hx b o (pc (u8 e)) e
 exact h Y _ U H xs _ Q I1 (by simpa using rv) hw
abbrev Mb (to ti:TE)(t:vQ):TG:=λv U H Q=>to U H λo H1=>ti U H1 λi H2=>t o i v H2 λH3=>Q U H3
def FW {o i:Expr}{to ti:TE}{t:vQ}(ho:PE X o to)(hi:PE X i ti)(hs:B1 X t)
  (ha:∀ v,assign (.Subscript o i pos) X.env v=(do
   let ov <-holding [v] (eval o X.env)
   let iv <-holding [v,ov] (eval i X.env)
   standAt pos
   holding [v,ov,iv] (setItem ov iv v)
   release [v,ov,iv] []):=by intro _;rfl):PG X (.Subscript o i pos) (Mb to ti t):=by
 intro Y s U H v u Q I r h;rw[ha];refine ad (bd (ax (ho Y s U H _ I h) λov s1 ⟨x,H1,I1,r1,q1⟩=>?_));refine ad (bd (ax (hi Y s1 U H1 _ I1 q1) λiv s2 ⟨y,H2,I2,r2,q2⟩=>?_));refine ad (wpAny_standAt (ad (bd (ax (hs Y s2 U H2 x y v ov iv u _ I2 r1 r2 r q2) λ_ s3 ⟨H3,I3,q3⟩=>?_))));exact wpAny_release ⟨U,H3,I3,q3⟩
abbrev Jd (te:TE)(g:TG):TS:=λD U H=>te U H λx H1=>g x U H1 D.nx
def yh {g:TG}(he:PE X e te)(hg:PG X tg g)(hs:swapsWithSole [tg] e pos.line X.env=pure false:=by rfl) (hw:swappedStores [tg] e X.env=pure none:=by rfl)
  (h1:(assignEach [tg] X.env).map (·.2)=[assign tg X.env]:=by rfl):PS X (.Assign [tg] e pos) (Jd te g):=by
 intro Y s U H D I h;refine wpAny_Assign_stores (ax (he Y s U H _ I h) λv s1 ⟨x,H1,I1,r1,q1⟩=>?_) hs hw;rw[h1];exact ax (hg Y s1 U H1 x v _ I1 r1 q1) λ_ s2 q=>q
def xP {pos':Pos}(hN:X.N.Nodup)(hi:X.N[i]? =some x)(hx:Loc X.env.scope x)(he:PE X e te)(hs:swapsWith e (some (.Name x pos')) pos.line X.env=pure false:=by rfl) (hf:X.fn x=true\/X.env.scope.names.lookup x=some .local:=by first|exact .inl rfl|exact .inr rfl|assumption):
  PS X (.Assign [.Name x pos'] e pos) (Jd te (gX i)):=by
 intro Y s U H D I h;refine wpAny_Assign_Name (ax (he Y s U H _ I h) λv s1 ⟨y,H1,I1,r1,q1⟩=>?_) hs;exact bJ I1 hN hi hx r1 (λs2 I2=>⟨_,H1,I2,q1⟩) hf
abbrev JA (to ti te:TE)(tget:V->V->Hp->VK->Prop)(tip:KG)(tset:vQ):TS:=λD U H=>to U H λo H1=>ti U H1 λi H2=>tget o i H2 λx H3=>te U H3 λy H4=>tip x y H4 λz H5=>tset o i z H5 λH6=>D.nx U H6
abbrev He (X:Cx)(t:V->V->Hp->VK->Prop):Prop:=
 ∀ (Y:M7) (s:Shared) (U:St) (H:Hp) (o i:V) (ov iv:Value) (Q:VK),Inv X Y U H s->RelV o ov->RelV i iv->t o i H Q->
  wpAny (model X.prog X.w) X.A (getItem ov iv) (EP X Y U Q) X.xe s
def BF {o i:Expr}{to ti:TE}{tget:V->V->Hp->VK->Prop}{tip:KG}{tset:vQ}{op:Operator}{tpos:Pos}(ho:PE X o to)(hi:PE X i ti)(hg:He X tget)(he:PE X e te)(hp:Ku X op tip)(hs:B1 X tset)
  (ha:∀ ov iv new,augStore i ov iv new=(do holding [new,ov,iv] (setItem ov iv new);release [new,ov,iv] [];pure .next):=by intros;rfl):PS X (.AugAssign (.Subscript o i tpos) op e pos) (JA to ti te tget tip tset):=by
 intro Y s U H D I h;refine wpAny_AugAssign_SubscriptAny (ax (ho Y s U H _ I h) λov s1 ⟨x1,H1,I1,r1,q1⟩=>?_) ha;refine ax (hi Y s1 U H1 _ I1 q1) λiv s2 ⟨x2,H2,I2,r2,q2⟩=>?_
 refine ax (hg Y s2 U H2 x1 x2 ov iv _ I2 r1 r2 q2) λold s3 ⟨x3,H3,I3,r3,q3⟩=>?_
 refine ax (he Y s3 U H3 _ I3 q3) λv s4 ⟨x4,H4,I4,r4,q4⟩=>?_
 refine ax (hp Y s4 U H4 x3 x4 old v _ I4 r3 r4 q4) λnew s5 ⟨x5,H5,I5,r5,q5⟩=>?_
 exact ax (hs Y s5 U H5 x1 x2 x5 ov iv new _ I5 r1 r2 r5 q5) λ_ s6 ⟨H6,I6,q6⟩=>⟨U,H6,I6,q6⟩
abbrev Mn (f:Int->Int->Int):KG:=λx y H Q=>∃ i j,x=.int i/\y=.int j/\Q (.int (f i j)) H
def GX:Ku X .Add (Mn λi j=>i+j):=by
 intro Y s U H x y v u Q I r1 r2 h;obtain ⟨i,j,e1,e2,q⟩:=h;subst e1;subst e2;obtain ⟨t,rfl⟩:=r1;obtain ⟨t',rfl⟩:=r2;exact iadd_int ⟨.int _,H,I.tok _,⟨_,rfl⟩,q⟩
def Fc:Ku X .Sub (Mn λi j=>i-j):=by
 intro Y s U H x y v u Q I r1 r2 h;obtain ⟨i,j,e1,e2,q⟩:=h;subst e1;subst e2;obtain ⟨t,rfl⟩:=r1;obtain ⟨t',rfl⟩:=r2;exact isub_int ⟨.int _,H,I.tok _,⟨_,rfl⟩,q⟩
end
variable {body:List Stmt}
section
variable {X:Cx}{pos:Pos}
abbrev E5 (c:TT)(tb:TS):TS:=λD U H=>∃ W:Nat->St->Hp->Prop,(∃ m,W m U H)/\∀ m U H,W m U H->
 c U H λb H1=>if b=true then ∃ N:St->Hp->Prop,(∀ σ' H',N σ' H'->∃ m',m'<m/\W m' σ' H')/\tb { D with nx:=N,ct:=N,bk:=D.nx } U H1 else D.nx U H1
def Aq {tc:TT}{tb:TS}(hp:PassesOwn (model X.prog X.w) X.A X.env X.xe)(hc:PT X c tc)(hb:Cg X body tb):PS X (.While c body [] pos) (E5 tc tb):=by
 intro Y s U H D I h;obtain ⟨W,⟨m0,w0⟩,turn⟩:=h;refine wpAny_While (codeAny_whileLoop (λn s'=>∃ σ' H',Inv X Y σ' H' s'/\W n σ' H') ?_ m0 ⟨U,H,I,w0⟩);rintro n s1 ⟨σ1,H1,I1,w1⟩;refine wpAny_passesOwn hp (ax (hc Y s1 σ1 H1 _ I1 (turn n σ1 H1 w1)) λb s2 ⟨H2,I2,q2⟩=>?_);cases b with
 |true=>
  obtain ⟨N,hN,q2⟩:=q2;rw[if_pos rfl];refine wpAny_passesOwn hp (ax (hb Y s2 σ1 H2 _ I2 q2) λf s3 q3=>?_);cases f with
  |next=>
   obtain ⟨σ3,H3,I3,n3⟩:=q3;obtain ⟨m',hm,w3⟩:=hN σ3 H3 n3;exact ⟨m',hm,σ3,H3,I3,w3⟩
  |cont=>
   obtain ⟨σ3,H3,I3,n3⟩:=q3;obtain ⟨m',hm,w3⟩:=hN σ3 H3 n3;exact ⟨m',hm,σ3,H3,I3,w3⟩
  |brk=>exact q3
  |ret v=>exact q3
 |false=>
  rw[if_neg Bool.false_ne_true];exact wpAny_execs_nil ⟨σ1,H2,I2,q2⟩
end
structure It where
 go:Nat->Hp->Prop
 yld:Nat->Hp->V->Hp->Prop
 stop:Nat->Hp->Prop
abbrev iM (X:Cx)(Y:M7)(H:Hp)(b:Addr):Prop:=
 H b=none/\b≠X.env.locals/\b ∉ X.fs/\(b ∈ X.ex\/X.s₀.heap.objs.size<=b)/\(∀ x c,X.env.cells.lookup x=some c->c≠b)/\∀ p ∈ X.pn++Y,p.1≠b
def Inv.qO {X:Cx}{H':Hp}(I:Inv X Y U H s)(hb:s.heap.objs.size<=b)(hn:H' b=none):iM X Y H' b:=by
 refine ⟨hn,Nat.ne_of_gt (nw I.lt hb),I.Lo hb,.inr (Nat.le_trans I.sz hb),λx c e z=>?_,λp hp z=>?_⟩
 ·obtain ⟨v,q⟩:=I.cell x c e;exact absurd (nw q.lt (by rw[z];exact hb)) (Nat.lt_irrefl _)
 ·exact absurd (nw (u8 (I.pin p hp).1) (by rw[z];exact hb)) (Nat.lt_irrefl _)
structure Turn (P:Program) (w:World) (K:W.Frag) (tg:Expr) (J:It) (fp:List Addr) (it:Addr) (tn:Nat->Heap->Prop):Prop where
 mem:it ∈ fp
 obj:∀ i h,tn i h->∀ b ∈ fp,∃ o,h.get? b=some o/\∀ v,o.data≠.cell v
 keep:∀ i h h',tn i h->(∀ b ∈ fp,∀ o,h.get? b=some o->h'.get? b=some o)->tn i h'
 item:∀ (X:Cx),X.prog=P->X.w=w->X.K=K->X.calm=true->∀ (i:Nat) (Y:M7) (s:Shared) (U:St) (H:Hp) (E:M6),Inv X Y U H s->(∀ b ∈ fp,iM X Y H b)->tn i s.heap->J.go i H->
  wpAny (model P w) X.A (pyNext (.ref it)) (λr s1=>∃ u,r=some u/\
   wpAny (model P w) X.A (letOwnedTupleGo tg (.ref it) u) (λ_ s2=>∃ x H',Inv X Y U H' s2/\RelV x u/\J.yld i H x H'/\tn (i+1) s2.heap/\∀ b ∈ fp,H' b=none) E s1) E s
 done:∀ (X:Cx),X.prog=P->X.w=w->X.K=K->X.calm=true->∀ (i:Nat) (Y:M7) (s:Shared) (U:St) (H:Hp) (E:M6),Inv X Y U H s->(∀ b ∈ fp,iM X Y H b)->tn i s.heap->J.stop i H->
  wpAny (model P w) X.A (pyNext (.ref it)) (λr s1=>r=none/\Inv X Y U H s1) E s
 self:∀ (A:Around) (i:Nat) (s:Shared) (Q:M6) (E:M6),tn i s.heap->Q (.ref it) s->wpAny (model P w) A (pyIter (.ref it)) Q E s
@[reducible]def TI:=St->Hp->(It->Hp->Prop)->Prop
abbrev ID (X:Cx)(Y:M7)(U:St)(tg:Expr)(R:It->Hp->Prop)(itv:Value)(s2:Shared):Prop:=
 ∃ (it:Addr) (fp:List Addr) (tn:Nat->Heap->Prop) (J:It) (H':Hp),itv=.ref it/\Inv X Y U H' s2/\Turn X.prog X.w X.K tg J fp it tn/\tn 0 s2.heap/\(∀ b ∈ fp,iM X Y H' b)/\R J H'
abbrev PI (X:Cx)(tg iter:Expr)(wi:TI):Prop:=
 ∀ (Y:M7) (s:Shared) (U:St) (H:Hp) (R:It->Hp->Prop),Inv X Y U H s->wi U H R->
  wpAny (model X.prog X.w) X.A (eval iter X.env) (λv s1=>wpAny (model X.prog X.w) X.A (pyIter v) (ID X Y U tg R) X.xe s1) X.xe s
def uX {it:Addr}{o:Obj}{n:String}{vs:Array Value}{Q:M5}(ho:s.heap.get? it=some o)(hc:o.cls=.type n)(hd:o.data=.fields vs)
  (hn:["enumerate","zip","dict_itemiterator","dict_reverseitemiterator","odict_iterator","itertools.zip_longest","itertools.pairwise"].contains n=false) (hQ:Q () s):wpAny M A (letOwnedTupleGo tg (.ref it) u) Q E s:=by
 unfold letOwnedTupleGo;cases tg<;>first
  |exact am hQ
  |(cases u<;>first
    |exact am hQ
    |(refine ad (wpAny_load ho ?_)
      rw[hc,hd];show wpAny M A (if (["enumerate","zip","dict_itemiterator","dict_reverseitemiterator","odict_iterator","itertools.zip_longest","itertools.pairwise"].contains n&&vs[0]? ==some (rawInt _))=true then _ else _) Q E s;rw[if_neg (by intro h;rw[hn,Bool.false_and] at h;cases h)];exact am hQ))
abbrev BM (K:W.Frag)(a:Addr):It:=
 ⟨λi H=>∃ xs x,bc K H a xs/\xs[i]? =some x,λi H x H'=>H'=H/\∀ xs,bc K H a xs->xs[i]? =some x,λi H=>∃ xs,bc K H a xs/\xs.length<=i⟩
abbrev J4 (K:W.Frag)(a:Addr):It:=
 ⟨λi H=>∃ xs x,aS K H a xs/\xs[i]? =some x,λi H x H'=>H'=H/\∀ xs,aS K H a xs->xs[i]? =some x,λi H=>∃ xs,aS K H a xs/\xs.length<=i⟩
abbrev Gq (lo:Int)(n:Nat):It:=⟨λi _=>i<n,λi H x H'=>H'=H/\x=.int (lo+i),λi _=>n<=i⟩
def vH (a it:Addr):Turn P w K tg (BM K a) [it] it (λi h=>h.IsListIter it a i) where
 mem:=by simp
 obj:=λi h st b hb=>by
  have e:b=it:=by simpa using hb
  subst e;obtain ⟨o,e,c,d⟩:=st;exact ⟨o,e,λv z=>by rw[d] at z;cases z⟩
 keep:=λi h h' st k=>st.at λo e=>k it (by simp) o e
 item:=by
  intro X hP hw hK hc i Y s U H E I hf st hg;subst hP hw hK;obtain ⟨xs,x,hq,hx⟩:=hg;obtain ⟨its,rv,p,hz⟩:=I.list hq;obtain ⟨u,hu,ru⟩:=rv.get hx;obtain ⟨f0,f1,f2,f3,f4,f5⟩:=hf it (by simp);refine wpAny_pyNext_list_item st p.isList (x:=u) (by simpa using hu) λh' st' sb=>?_
  have I1:Inv X Y U H { s with heap:=h' }:=I.turned (t':=s.toks) (λb o hb e=>(sb.2 b hb).trans e) f0 f1 f3 f4 f5;obtain ⟨o,e,c,d⟩:=id st';exact ⟨u,rfl,uX (s:={ s with heap:=h' }) e c d (by decide) ⟨x,H,I1,ru,⟨rfl,λys hy=>by rw[I.kS hy hq];exact hx⟩,st',λb hb=>(hf b hb).1⟩⟩
 done:=by
  intro X hP hw hK hc i Y s U H E I hf st hg;subst hP hw hK;obtain ⟨xs,hq,hx⟩:=hg;obtain ⟨its,rv,p,hz⟩:=I.list hq;obtain ⟨f0,f1,f2,f3,f4,f5⟩:=hf it (by simp);have hl:=rv.length;exact wpAny_pyNext_list_end (I.ok.hd hc) st p.isList (by simp;omega) λh' eb=>⟨rfl,I.turned (t':=s.toks) (λb o hb e=>eb b o hb e) f0 f1 f3 f4 f5⟩
 self:=λ_ _ _ _ _ st h=>wpAny_pyIter_listiter st h
def tD (a it:Addr):Turn P w K tg (J4 K a) [it] it (λi h=>h.IsTupleIter it a i) where
 mem:=by simp
 obj:=λi h st b hb=>by
  have e:b=it:=by simpa using hb
  subst e;obtain ⟨o,e,c,d⟩:=st;exact ⟨o,e,λv z=>by rw[d] at z;cases z⟩
 keep:=λi h h' st k=>st.at λo e=>k it (by simp) o e
 item:=by
  intro X hP hw hK hc i Y s U H E I hf st hg;subst hP hw hK;obtain ⟨xs,x,hq,hx⟩:=hg;obtain ⟨its,rv,p,hz⟩:=I.tuple hq;obtain ⟨u,hu,ru⟩:=rv.get hx;obtain ⟨f0,f1,f2,f3,f4,f5⟩:=hf it (by simp);refine wpAny_pyNext_tuple_item st (show s.heap.IsTuple a its.toArray from p) (x:=u) (by simpa using hu) λh' st' sb=>?_
  have I1:Inv X Y U H { s with heap:=h' }:=I.turned (t':=s.toks) (λb o hb e=>(sb.2 b hb).trans e) f0 f1 f3 f4 f5;obtain ⟨o,e,c,d⟩:=id st';exact ⟨u,rfl,uX (s:={ s with heap:=h' }) e c d (by decide) ⟨x,H,I1,ru,⟨rfl,λys hy=>by rw[I.fq hy hq];exact hx⟩,st',λb hb=>(hf b hb).1⟩⟩
 done:=by
  intro X hP hw hK hc i Y s U H E I hf st hg;subst hP hw hK;obtain ⟨xs,hq,hx⟩:=hg;obtain ⟨its,rv,p,hz⟩:=I.tuple hq;obtain ⟨f0,f1,f2,f3,f4,f5⟩:=hf it (by simp);have hl:=rv.length;exact wpAny_pyNext_tuple_end (I.ok.hd hc) st (show s.heap.IsTuple a its.toArray from p) (by simp;omega) λh' eb=>⟨rfl,I.turned (t':=s.toks) (λb o hb e=>eb b o hb e) f0 f1 f3 f4 f5⟩
 self:=λ_ _ _ _ _ st h=>wpAny_pyIter_tupleiter st h
def tT (it:Addr)(lo:Int)(n:Nat):Turn P w K tg (Gq lo n) [it] it (λi h=>IsRangeIter h it (lo+(i:Nat)*1) ((n:Int)-(i:Nat)) 1) where
 mem:=by simp
 obj:=λi h st b hb=>by
  have e:b=it:=by simpa using hb
  subst e;exact ⟨_,st,λv z=>by
   have z':Data.fields _=Data.cell v:=z;cases z'⟩
 keep:=λi h h' st k=>k it (by simp) _ st
 item:=by
  intro X hP hw hK hc i Y s U H E I hf st hg;subst hP hw hK;obtain ⟨f0,f1,f2,f3,f4,f5⟩:=hf it (by simp);have W:=Walks.range (prog:=X.prog) (w:=X.w) (I.ok.hd hc) it lo 1 n;refine W.item i s _ _ hg st λv h' tk hv st' kk=>?_
  obtain ⟨t,rfl⟩:=hv;have I1:Inv X Y U H { s with heap:=h',toks:=tk }:=I.turned (λb o hb e=>kk b o (by simpa using hb) e) f0 f1 f3 f4 f5;refine ⟨_,rfl,uX (s:={ s with heap:=h',toks:=tk }) (n:="range_iterator") st' rfl rfl (by decide) ⟨.int (lo+i),H,I1,⟨t,?_⟩,⟨rfl,rfl⟩,st',λb hb=>(hf b hb).1⟩⟩;rw[Int.mul_one]
 done:=by
  intro X hP hw hK hc i Y s U H E I hf st hg;subst hP hw hK;obtain ⟨f0,f1,f2,f3,f4,f5⟩:=hf it (by simp);exact wpAny_pyNext_range_end (I.ok.hd hc) st (by have:n<=i:=hg;omega) λh' eb=>⟨rfl,I.turned (t':=s.toks) (λb o hb e=>eb b o hb e) f0 f1 f3 f4 f5⟩
 self:=λ_ _ _ _ _ st h=>wpAny_pyIter_rangeiter st h
variable {pos:Pos}{fp:List Addr}
section
variable {X:Cx}{tg:Expr}
def yw {R:It->Hp->Prop}{lo hi:Int}{t u v:Tok}{tk:Nat}(I:Inv X Y U H s)(h1: -(2 ^ 62)<=lo)(h2:lo<2 ^ 62)(h3: -(2 ^ 62)<=hi)(h4:hi<2 ^ 62)
  (q:R (Gq lo (hi-lo).toNat) H):wpAny (model X.prog X.w) X.A (pyIter (.ref s.heap.objs.size)) (ID X Y U tg R) E { s with heap:=s.heap.push { cls:=.type "range",data:=.fields #[.int lo t,.int hi u,.int 1 v] },toks:=tk }:=by
 refine wpAny_pyIter_range (IsRange.new ..) (small_one h1 h2 h3 h4) ?_;have I1:Inv X Y U H { s with heap:=s.heap.push { cls:=.type "range",data:=.fields #[.int lo t,.int hi u,.int 1 v] },toks:=tk }:=I.kept λb o e=>tz _ e
 refine ⟨(s.heap.push { cls:=.type "range",data:=.fields #[.int lo t,.int hi u,.int 1 v] }).objs.size,[(s.heap.push { cls:=.type "range",data:=.fields #[.int lo t,.int hi u,.int 1 v] }).objs.size],_,_,H,rfl,
  I1.kept (t':=tk) λb o e=>tz _ e,tT _ lo (hi-lo).toNat,?_,λb hb=>?_,q⟩
 ·have e1:lo+((0:Nat):Int)*1=lo:=by simp
  have e2:(((hi-lo).toNat:Nat):Int)-((0:Nat):Int)=Builtin.Range.rangeSize lo hi 1:=by rw[rangeSize_one];split<;>omega
  show IsRangeIter _ _ (lo+((0:Nat):Int)*1) ((((hi-lo).toNat:Nat):Int)-((0:Nat):Int)) 1;rw[e1,e2];exact ul _ rfl
 ·have e:b=(s.heap.push { cls:=.type "range",data:=.fields #[.int lo t,.int hi u,.int 1 v] }).objs.size:=by simpa using hb
  subst e;exact I1.qO (pi _) (I1.hok.fresh (pi _))
abbrev Ig (ta:TA):TI:=λU H R=>ta U H λvs H1=>∃ j:Int,vs=[.int j]/\ -(2 ^ 62)<=j/\j<2 ^ 62/\R (Gq 0 j.toNat) H1
def xg {a:Expr}{ta:TA}{p:Pos}(hg:Gl X "range") (hm:X.mg "range"=none) (ha:PA X [a] ta) (hs:bm [a] X.env=[(false,eval a X.env)]:=by rfl):PI X tg (.Call (.Name "range" p) [a] [] pos) (Ig ta):=by
 intro Y s U H R I h;refine Call_ (bN I hg hm boot_range (PyProof.Rows.callWith_type1 (ax (ha pos Y s U H _ I h) λus s1 ⟨vs,H1,I1,r1,q1⟩=>?_) hs rfl));obtain ⟨j,e,q1,q2,q⟩:=q1;subst e;cases r1 with
 |cons r rr=>
  cases rr;obtain ⟨t,rfl⟩:=r;exact call_range_1 (yw I1 nofun nofun q1 q2 (by simpa using q))
abbrev L9 (wi:TI)(g:TG)(tb:TS):TS:=λD U H=>wi U H λJ H1=>∃ W:Nat->Nat->St->Hp->Prop,(∃ m,W 0 m U H1)/\∀ i m U H,W i m U H->
 (J.stop i H/\D.nx U H)\/(J.go i H/\∃ N:St->Hp->Prop,(∀ σ' H',N σ' H'->∃ m',m'<m/\W (i+1) m' σ' H')/\∀ x H',J.yld i H x H'->g x U H' λσ2 H2=>tb { D with nx:=N,ct:=N,bk:=D.nx } σ2 H2)
abbrev nV (fp:List Addr)(h:Heap):List (Addr×Obj):=fp.filterMap λb=>(h.get? b).map λo=>(b,o)
def bS {o:Obj}(hb:b ∈ fp)(e:h.get? b=some o):(b,o) ∈ nV fp h:=List.mem_filterMap.mpr ⟨b,hb,by rw[e];rfl⟩
def xu {p:Addr×Obj}(hp:p ∈ nV fp h):p.1 ∈ fp/\h.get? p.1=some p.2:=by
 obtain ⟨b,hb,e⟩:=List.mem_filterMap.mp hp;cases q:h.get? b with
 |none=>rw[q] at e;cases e
 |some o=>
  rw[q] at e;have e':(b,o)=p:=Option.some.inj e;subst e';exact ⟨hb,q⟩
def Inv.pinned (I:Inv X Y U H s)(hf:∀ b ∈ fp,iM X Y H b) (ho:∀ b ∈ fp,∃ o,s.heap.get? b=some o/\∀ v,o.data≠.cell v):Inv X (Y++nV fp s.heap) U H s:=
 I.oB λp hp=>(mem_append.mp hp).elim (λz=>I.pin p (im _ z)) λz=>by
  obtain ⟨hb,e⟩:=xu z;obtain ⟨f0,f1,f2,_⟩:=hf p.1 hb;obtain ⟨o,e',d⟩:=ho p.1 hb;rw[e] at e';cases e';exact ⟨e,f0,f1,f2,d⟩
def Inv.eZ {pl:M7}(I:Inv X (Y++pl) U H s):Inv X Y U H s:=I.oB λp hp=>I.pin p (im _ (mem_append_left _ hp))
def F5 {iter:Expr}{wi:TI}{g:TG}{tb:TS}(hp:PassesOwn (model X.prog X.w) X.A X.env X.xe)(hc:X.calm=true)(hi:PI X tg iter wi)(hg:PG X tg g)(hb:Cg X body tb)
  (hs:∀ x,foldedSetIterable iter X.env x=pure x:=by intro _;rfl):PS X (.For tg iter body [] pos) (L9 wi g tb):=by
 intro Y s U H D I h;refine wpAny_For (ax (hi Y s U H _ I h) λv s1 h1=>ax h1 λitv s2 h2=>?_) hs;obtain ⟨it,fp,tn,J,H2,e,I2,T,pk,f2,W,⟨m0,w0⟩,turn⟩:=h2;subst e;have stat:∀ {H':Hp},(∀ b ∈ fp,H' b=none)->∀ b ∈ fp,iM X Y H' b:=λhn b hb=>⟨hn b hb,(f2 b hb).2⟩
 refine codeAny_forLoop_any (λn s'=>∃ i σ' H',Inv X Y σ' H' s'/\tn i s'.heap/\(∀ b ∈ fp,H' b=none)/\W i n σ' H') ?_ m0 ⟨0,U,H2,I2,pk,λb hb=>(f2 b hb).1,w0⟩;rintro n s3 ⟨i,σ3,H3,I3,st3,fr3,w3⟩;rcases turn i n σ3 H3 w3 with ⟨stop,qn⟩|⟨go,N,hN,step⟩
 ·refine wpAny_passesOwn hp (ax (T.done X rfl rfl rfl hc i Y s3 σ3 H3 X.xe I3 (stat fr3) st3 stop) λr s4 ⟨hr,I4⟩=>?_);subst hr;exact wpAny_execs_nil ⟨σ3,H3,I4,qn⟩
 ·refine wpAny_passesOwn hp (ax (T.item X rfl rfl rfl hc i Y s3 σ3 H3 X.xe I3 (stat fr3) st3 go) λr s4 ⟨u,hr,h4⟩=>?_);subst hr;refine wpAny_passesOwn hp (ax h4 λ_ s5 ⟨x,H5,I5,r5,y5,st5,fr5⟩=>?_);have I5':=I5.pinned (stat fr5) (T.obj _ _ st5);refine wpAny_passesOwn hp (ax (hg _ s5 σ3 H5 x u _ I5' r5 (step x H5 y5)) λ_ s6 ⟨σ6,H6,I6,q6⟩=>?_);refine wpAny_passesOwn hp (ax (hb _ s6 σ6 H6 _ I6 q6) λf s7 q7=>?_);have again:∀ {σ7:St}{H7:Hp},Inv X (Y++nV fp s5.heap) σ7 H7 s7->N σ7 H7->∃ m,m<n/\∃ i σ' H',Inv X Y σ' H' s7/\tn i s7.heap/\(∀ b ∈ fp,H' b=none)/\W i m σ' H':=λ{σ7 H7} I7 n7=>by
   obtain ⟨m',hm,w7⟩:=hN σ7 H7 n7;refine ⟨m',hm,i+1,σ7,H7,I7.eZ,T.keep _ _ _ st5 λb hb o e=>(I7.pin (b,o) (im _ (im _ (bS hb e)))).1,λb hb=>?_,w7⟩;obtain ⟨o,e,d⟩:=T.obj _ _ st5 b hb;exact (I7.pin (b,o) (im _ (im _ (bS hb e)))).2.1
  cases f with
  |next=>obtain ⟨σ7,H7,I7,n7⟩:=q7;exact again I7 n7
  |cont=>obtain ⟨σ7,H7,I7,n7⟩:=q7;exact again I7 n7
  |brk=>obtain ⟨σ7,H7,I7,q7⟩:=q7;exact ⟨σ7,H7,I7.eZ,q7⟩
  |ret v=>obtain ⟨x7,σ7,H7,I7,r7,q7⟩:=q7;exact ⟨x7,σ7,H7,I7.eZ,r7,q7⟩
end
@[reducible]def R2:=V->V->Hp->VK->Prop
abbrev dr (X:Cx)(f:Value->Value->Sem Value)(r:R2):Prop:=
 ∀ (Y:M7) (s:Shared) (U:St) (H:Hp) (x y:V) (v u:Value) (Q:VK),Inv X Y U H s->RelV x v->RelV y u->r x y H Q->
  wpAny (model X.prog X.w) X.A (f v u) (EP X Y U Q) X.xe s
abbrev Kz (X:Cx)(f:Value->Sem Value)(r:V->Hp->VK->Prop):Prop:=
 ∀ (Y:M7) (s:Shared) (U:St) (H:Hp) (x:V) (v:Value) (Q:VK),Inv X Y U H s->RelV x v->r x H Q->
  wpAny (model X.prog X.w) X.A (f v) (EP X Y U Q) X.xe s
abbrev cx (X:Cx)(f:Value)(r:List V->Hp->VK->Prop):Prop:=
 ∀ (Y:M7) (s:Shared) (U:St) (H:Hp) (xs:List V) (us:List Value) (Q:VK),Inv X Y U H s->Vals xs us->r xs H Q->
  wpAny (model X.prog X.w) X.A (call f us) (EP X Y U Q) X.xe s
abbrev LG (X:Cx)(r:V->Hp->(Bool->Hp->Prop)->Prop):Prop:=
 ∀ (Y:M7) (s:Shared) (U:St) (H:Hp) (x:V) (v:Value) (Q:Bool->Hp->Prop),Inv X Y U H s->RelV x v->r x H Q->
  wpAny (model X.prog X.w) X.A (truthy v) (TP X Y U Q) X.xe s
abbrev Kw (r:R2)(ta tb:TE):TE:=λU H Q=>ta U H λx H1=>tb U H1 λy H2=>r x y H2 Q
abbrev MU (r:V->Hp->VK->Prop)(ta:TE):TE:=λU H Q=>ta U H λx H1=>r x H1 Q
abbrev rI (C:Int->Int->Prop)(g:Int->Int->V):R2:=λx y H Q=>∃ i j,x=.int i/\y=.int j/\C i j/\Q (g i j) H
abbrev Dg (g:Int->Int->V):R2:=λx y H Q=>∃ i j,x=.int i/\y=.int j/\Q (g i j) H
abbrev rU (g:Int->V):V->Hp->VK->Prop:=λx H Q=>∃ i,x=.int i/\Q (g i) H
variable {f:Value->Value->Sem Value}{r:R2}{g:Int->Int->Int}
section
variable {X:Cx}{a b c:Expr}{ta tb tc:TE}{pos:Pos}
def Hi (ha:PE X a ta)(hb:PE X b tb){R:V->V->Hp->Prop}(I:Inv X Y U H s)
  (h:ta U H λx H1=>tb U H1 λy H2=>R x y H2)
  (hf:∀ v u s2 x y H2,Inv X Y U H2 s2->RelV x v->RelV y u->R x y H2->wpAny (model X.prog X.w) X.A (f v u) Q X.xe s2):
  wpAny (model X.prog X.w) X.A (eval a X.env) (λv s₁=>wpAny (model X.prog X.w) X.A (eval b X.env) (λu s₂=>wpAny (model X.prog X.w) X.A (f v u) Q X.xe s₂) X.xe s₁) X.xe s:=by
 refine ax (ha Y s U H _ I h) λv s1 ⟨x,H1,I1,r1,q1⟩=>?_
 refine ax (hb Y s1 U H1 _ I1 q1) λu s2 ⟨y,H2,I2,r2,q2⟩=>?_
 exact hf v u s2 x y H2 I2 r1 r2 q2
def JK {op:Operator}(ho:dr X (binaryOp op) r)(ha:PE X a ta)(hb:PE X b tb):PE X (.BinOp a op b pos) (Kw r ta tb):=by
 intro Y s U H Q I h;exact wpAny_BinOp (Hi ha hb I h λv u s2 x y H2 I2 rx ry q=>ho Y s2 U H2 x y v u Q I2 rx ry q)
def Ih {op:UnaryOp}{r:V->Hp->VK->Prop}(ho:Kz X (unaryOp op) r)(ha:PE X a ta):PE X (.UnaryOp op a pos) (MU r ta):=by
 intro Y s U H Q I h;exact UnaryOp_ (ax (ha Y s U H _ I h) λv s1 ⟨x,H1,I1,r1,q1⟩=>ho Y s1 U H1 x v Q I1 r1 q1)
def KJ {C:Int->Int->Prop}
  (rule:∀ (i j:Int) (t u:Tok) (s:Shared) (Q:M6) (E:M6),C i j->Q (.int (g i j) s.toks) { s with toks:=s.toks+1 }->wpAny (model X.prog X.w) X.A (f (.int i t) (.int j u)) Q E s):
  dr X f (rI C λi j=>.int (g i j)):=by
 intro Y s U H x y v u Q I rx ry h;obtain ⟨i,j,rfl,rfl,hc,q⟩:=h;obtain ⟨t,rfl⟩:=rx;obtain ⟨t',rfl⟩:=ry;exact rule i j t t' s _ _ hc ⟨.int (g i j),H,I.tok _,⟨_,rfl⟩,q⟩
def HY 
  (rule:∀ (i j:Int) (t u:Tok) (s:Shared) (Q:M6) (E:M6),Q (.int (g i j) s.toks) { s with toks:=s.toks+1 }->wpAny (model X.prog X.w) X.A (f (.int i t) (.int j u)) Q E s):
  dr X f (Dg λi j=>.int (g i j)):=by
 intro Y s U H x y v u Q I rx ry h;obtain ⟨i,j,rfl,rfl,q⟩:=h;obtain ⟨t,rfl⟩:=rx;obtain ⟨t',rfl⟩:=ry;exact rule i j t t' s _ _ ⟨.int (g i j),H,I.tok _,⟨_,rfl⟩,q⟩
def B6 {g:Int->Int->Bool}
  (rule:∀ (i j:Int) (t u:Tok) (s:Shared) (Q:M6) (E:M6),Q (.bool (g i j)) s->wpAny (model X.prog X.w) X.A (f (.int i t) (.int j u)) Q E s):
  dr X f (Dg λi j=>.bl (g i j)):=by
 intro Y s U H x y v u Q I rx ry h;obtain ⟨i,j,rfl,rfl,q⟩:=h;obtain ⟨t,rfl⟩:=rx;obtain ⟨t',rfl⟩:=ry;exact rule i j t t' s _ _ ⟨.bl (g i j),H,I,rfl,q⟩
abbrev K6 (i j:Int):Prop:=0<j/\j<1073741824
abbrev Cj (i j:Int):Prop:=0<=j/\j<=1000000/\i.natAbs<2 ^ 64
abbrev pL (i j:Int):Prop:=(-(2 ^ 64)<i/\i<2 ^ 64)\/(-(2 ^ 64)<j/\j<2 ^ 64)
def pL.ok {i j:Int}(h:pL i j):IntMulOk i j:=by
 rcases h with ⟨h1,h2⟩|⟨h1,h2⟩
 ·exact .of_left (intBits_le_64 h1 h2)
 ·exact .of_right (intBits_le_64 h1 h2)
def GV:dr X (binaryOp .Add) (Dg λi j=>.int (i+j)):=HY λ_ _ _ _ _ _ _ q=>add_int q
def GL:dr X (binaryOp .Sub) (Dg λi j=>.int (i-j)):=HY λ_ _ _ _ _ _ _ q=>sub_int q
def Fy:dr X (binaryOp .Mult) (rI pL λi j=>.int (i*j)):=KJ λ_ _ _ _ _ _ _ hc q=>mul_int q hc.ok
def Br:dr X (binaryOp .FloorDiv) (rI K6 λi j=>.int (i / j)):=KJ λi j _ _ _ _ _ hc q=>by
 have h1:(0:Int)<j:=hc.1;have h2:j<1073741824:=hc.2;exact floordiv_int nofun (by rw[Int.fdiv_eq_ediv_of_nonneg i nofun];exact q) (.inl (PyProof.noPylong_small nofun))
def Hm:dr X (binaryOp .Mod) (rI (λ_ j=>0<j) λi j=>.int (i % j)):=KJ λi j _ _ _ _ _ hc q=>by
 have h1:(0:Int)<j:=hc;exact mod_int' nofun (by rw[Int.fmod_eq_emod_of_nonneg i nofun];exact q)
def GH:dr X (binaryOp .Pow) (rI Cj λi j=>.int (i ^ j.toNat)):=KJ λ_ _ _ _ _ _ _ hc q=>pow_int_small hc.1 hc.2.1 hc.2.2 q
def MH {f:Value->Sem Value}{g:Int->Int}
  (rule:∀ (i:Int) (t:Tok) (s:Shared) (Q:M6) (E:M6),Q (.int (g i) s.toks) { s with toks:=s.toks+1 }->wpAny (model X.prog X.w) X.A (f (.int i t)) Q E s):
  Kz X f (rU λi=>.int (g i)):=by
 intro Y s U H x v Q I rx h;obtain ⟨i,rfl,q⟩:=h;obtain ⟨t,rfl⟩:=rx;exact rule i t s _ _ ⟨.int (g i),H,I.tok _,⟨_,rfl⟩,q⟩
def F4:Kz X (unaryOp .USub) (rU λi=>.int (-i)):=MH λ_ _ _ _ _ q=>neg_int q
end
variable {op:CmpOp}
section
variable {X:Cx}{a b c:Expr}{ta tb tc:TE}{pos:Pos}
def zQ {Q:VK}{k k':Bool}(I:Inv X Y U H s)(q:Q (.bl k) H)(e:k=k'):EP X Y U Q (.bool k') s:=by
 subst e;exact ⟨.bl k,H,I,rfl,q⟩
def IA:dr X (compareOp .Lt) (Dg λi j=>.bl (decide (i<j))):=B6 λ_ _ _ _ _ _ _ q=>lt_int q
def JI:dr X (compareOp .LtE) (Dg λi j=>.bl (decide (i<=j))):=B6 λ_ _ _ _ _ _ _ q=>le_int q
def Kg:dr X (compareOp .Gt) (Dg λi j=>.bl (decide (j<i))):=B6 λ_ _ _ _ _ _ _ q=>gt_int q
def JO:dr X (compareOp .GtE) (Dg λi j=>.bl (decide (j<=i))):=B6 λ_ _ _ _ _ _ _ q=>ge_int q
def Gw:dr X (compareOp .Is) (λx y H Q=>y=.non/\Q (.bl (decide (x=.non))) H):=by
 intro Y s U H x y v u Q I rx ry h;obtain ⟨rfl,q⟩:=h;cases ry;refine is_none_gen (zQ I q ?_);cases x<;>first
  |(cases rx;rfl)
  |(obtain ⟨t,rfl⟩:=rx;rfl)
def DB:dr X (compareOp .IsNot) (λx y H Q=>y=.non/\Q (.bl (!decide (x=.non))) H):=by
 intro Y s U H x y v u Q I rx ry h;obtain ⟨rfl,q⟩:=h;cases ry;refine isnot_none_gen (zQ I q ?_);cases x<;>first
  |(cases rx;rfl)
  |(obtain ⟨t,rfl⟩:=rx;rfl)
def Bc (ho:dr X (compareOp op) r)(ha:PE X a ta)(hb:PE X b tb)(hm:behindInMarks op b=false):PE X (.Compare a [op] [b] pos) (Kw r ta tb):=by
 intro Y s U H Q I h;exact wpAny_Compare1 (Hi ha hb I h λv u s2 x y H2 I2 rx ry q=>ho Y s2 U H2 x y v u Q I2 rx ry q) hm
abbrev EG (t:TE):TT:=λU H Q=>t U H λx H'=>∃ k,x=.bl k/\Q k H'
def Ba (ho:dr X (compareOp op) r)(ha:PE X a ta)(hb:PE X b tb)(hm:behindInMarks op b=false):PT X (.Compare a [op] [b] pos) (EG (Kw r ta tb)):=by
 intro Y s U H Q I h;refine wpAny_isTrue_Compare1 (ax (ha Y s U H _ I h) λv s1 ⟨x,H1,I1,r1,q1⟩=>ax (hb Y s1 U H1 _ I1 q1) λu s2 ⟨y,H2,I2,r2,q2⟩=>
  ax (ho Y s2 U H2 x y v u _ I2 r1 r2 q2) λc s3 ⟨z,H3,I3,r3,k,e,q3⟩=>?_) hm
 subst e;cases r3;exact bi ⟨H3,I3,q3⟩
abbrev zk (r r':R2)(ta tb tc:TE):TE:=λU H Q=>ta U H λx H1=>tb U H1 λy H2=>r x y H2 λz H3=>∃ k,z=.bl k/\
 (if k=true then tc U H3 λw' H4=>r' y w' H4 Q else Q (.bl false) H3)
def yP {op':CmpOp}{r':R2}(ho:dr X (compareOp op) r)(ho':dr X (compareOp op') r')(ha:PE X a ta)(hb:PE X b tb)(hc:PE X c tc)
  (hm:lastMarks [op,op'] [b,c]=false:=by with_unfolding_all rfl):PE X (.Compare a [op,op'] [b,c] pos) (zk r r' ta tb tc):=by
 intro Y s U H Q I h;refine Compare_chain (ax (ha Y s U H _ I h) λv s1 ⟨x,H1,I1,r1,q1⟩=>chain_link (ax (hb Y s1 U H1 _ I1 q1) λu s2 ⟨y,H2,I2,r2,q2⟩=>
  ax (ho Y s2 U H2 x y v u _ I2 r1 r2 q2) λd s3 ⟨z,H3,I3,r3,k,e,q3⟩=>?_)) hm
 subst e;cases r3;refine bi ?_;cases k with
 |false=>exact ite_ff ⟨.bl false,H3,I3,rfl,q3⟩
 |true=>exact ite_tt (chain_last (ax (hc Y s3 U H3 _ I3 q3) λw' s4 ⟨z',H4,I4,r4,q4⟩=>ho' Y s4 U H4 y z' u w' Q I4 r2 r4 q4))
def xY {op':CmpOp}{r':R2}(ho:dr X (compareOp op) r)(ho':dr X (compareOp op') r')(ha:PE X a ta)(hb:PE X b tb)(hc:PE X c tc)
  (hm:lastMarks [op,op'] [b,c]=false:=by with_unfolding_all rfl):PT X (.Compare a [op,op'] [b,c] pos) (EG (zk r r' ta tb tc)):=by
 intro Y s U H Q I h;refine isTrue_chain (ax (ha Y s U H _ I h) λv s1 ⟨x,H1,I1,r1,q1⟩=>test_link (ax (hb Y s1 U H1 _ I1 q1) λu s2 ⟨y,H2,I2,r2,q2⟩=>
  ax (ho Y s2 U H2 x y v u _ I2 r1 r2 q2) λd s3 ⟨z,H3,I3,r3,k,e,q3⟩=>?_)) hm
 subst e;cases r3;refine bi ?_;cases k with
 |false=>
  obtain ⟨k',e',q'⟩:=q3;cases e';exact ite_ff ⟨H3,I3,q'⟩
 |true=>
  refine ite_tt (test_last (ax (hc Y s3 U H3 _ I3 q3) λw' s4 ⟨z',H4,I4,r4,q4⟩=>ax (ho' Y s4 U H4 y z' u w' _ I4 r2 r4 q4) λd' s5 ⟨z2,H5,I5,r5,k2,e2,q5⟩=>?_));subst e2;cases r5;exact bi ⟨H5,I5,q5⟩
abbrev Cc (K:W.Frag)(x:V)(H:Hp)(k:Bool):Prop:=
 match x with
 | .non=>k=false
 | .bl b=>k=b
 | .int i=>k=(i != 0)
 | .str y=>y.length<=bn/\k=((y.length:Int) != 0)
 | .byt y=>y.size<=bn/\k=((y.size:Int) != 0)
 | .ref p=>(∃ xs,bc K H p xs/\k= !xs.isEmpty)\/(∃ xs,aS K H p xs/\k= !xs.isEmpty)\/∃ kvs,H p=some (.dK kvs)/\k= !kvs.isEmpty
 |_=>False
def tf {κ:Type}{kvs:List (κ×V)}{vs:List (κ×Value)}(r:KV kvs vs):(!vs.isEmpty)= !kvs.isEmpty:=by
 cases r<;>rfl
def km {its:List Value}(r:Vals xs its):(!its.toArray.isEmpty)= !xs.isEmpty:=by
 cases r<;>simp
def gb:(bn:Nat)<2 ^ 63:=by rw[sizeLine_eq];decide
def GW:LG X (λx H Q=>∃ k,Cc X.K x H k/\Q k H):=by
 intro Y s U H x v Q I rx h;obtain ⟨k,e,q⟩:=h;have hl:=gb;have hs:bn=16777216:=sizeLine_eq;cases x with
 |non=>
  cases rx;have e':k=false:=e;subst e';exact truthy_none ⟨H,I,q⟩
 |bl b=>
  cases rx;have e':k=b:=e;subst e';exact bi ⟨H,I,q⟩
 |int i=>
  obtain ⟨t,rfl⟩:=rx;have e':k=(i != 0):=e;subst e';exact PySem.P.truthy_int ⟨H,I,q⟩
 |str y=>
  obtain ⟨t,rfl⟩:=rx;obtain ⟨hy,e'⟩:y.length<=bn/\k=((y.length:Int) != 0):=e;subst e';exact PySem.P.truthy_str nofun ⟨H,I.tok _,q⟩
 |byt y=>
  obtain ⟨t,rfl⟩:=rx;obtain ⟨hy,e'⟩:y.size<=bn/\k=((y.size:Int) != 0):=e;subst e';exact W.truthy_bytes nofun ⟨H,I.tok _,q⟩
 |ref p=>
  cases rx;have e':(∃ xs,bc X.K H p xs/\k= !xs.isEmpty)\/(∃ xs,aS X.K H p xs/\k= !xs.isEmpty)\/∃ kvs,H p=some (.dK kvs)/\k= !kvs.isEmpty:=e;rcases e' with ⟨xs,hx,e'⟩|⟨xs,hx,e'⟩|⟨kvs,hx,e'⟩
  ·subst e';obtain ⟨its,r,pl,hz⟩:=I.list hx;have hlen:=r.length;exact wpAny_truthy_list pl.isList (by simp only[ii];omega) ⟨H,I.tok _,by rw[km r];exact q⟩
  ·subst e';obtain ⟨its,r,pl,hz⟩:=I.tuple hx;have hlen:=r.length;exact truthy_tuple pl (by simp only[ii];omega) ⟨H,I.tok _,by rw[km r];exact q⟩
  ·subst e';obtain ⟨hz,hS,vs,r,m⟩:kvs.length<=bn/\(p ==sysModules)=false/\∃ vs,KV kvs vs/\s.heap.DictOf (ar X.prog X.w) p vs:=I.hok p _ hx;have hlen:kvs.length=vs.length:=Paired.length r;exact wpAny_truthy_dict hS m nofun ⟨H,I.tok _,by rw[tf r];exact q⟩
 |_=>exact (show False from e).elim
def yJ (ha:PE X a ta)(he:∀ whole,isTrue a X.env whole=(do let v <-whole;standAt a.pos;holding [v] (truthy v))):
  PT X a (λU H Q=>ta U H λx H'=>∃ k,Cc X.K x H' k/\Q k H'):=by
 intro Y s U H Q I h;exact isTrue_plain (ax (ha Y s U H _ I h) λv s1 ⟨x,H1,I1,r1,q1⟩=>GW Y s1 U H1 x v Q I1 r1 q1) (he _)
def rX:dr X (binaryOp .Add) (λx y H Q=>∃ i j,x=.str i/\y=.str j/\i.length+j.length<=bn/\Q (.str (i++j)) H):=by
 intro Y s U H x y v u Q I rx ry h;obtain ⟨i,j,rfl,rfl,hz,q⟩:=h;obtain ⟨t,rfl⟩:=rx;obtain ⟨t',rfl⟩:=ry;exact add_str (λt' tk=>⟨.str (i++j),H,I.tok _,⟨_,rfl⟩,q⟩) hz
def vals1 {x:V}(r:Vals [x] us):∃ u,us=[u]/\RelV x u:=by
 cases r with
 |cons r1 r2=>cases r2;exact ⟨_,rfl,r1⟩
def vals2 {x y:V}(r:Vals [x,y] us):∃ u w',us=[u,w']/\RelV x u/\RelV y w':=by
 cases r with
 |cons r1 r2=>
  cases r2 with
  |cons r3 r4=>cases r4;exact ⟨_,_,rfl,r1,r3⟩
def w6 (hc:X.calm=true):cx X (.builtin "max") (λxs H Q=>∃ i j,xs=[.int i,.int j]/\Q (.int (if j>i then j else i)) H):=by
 intro Y s U H xs us Q I r h;obtain ⟨i,j,rfl,q⟩:=h;obtain ⟨u,w',rfl,⟨t,rfl⟩,⟨t',rfl⟩⟩:=vals2 r;refine max_two_ints (I.ok.hd hc) λh' tk k=>⟨_,H,I.kept k,?_,q⟩
 by_cases hj:j>i
 ·rw[if_pos hj,if_pos hj];exact ⟨_,rfl⟩
 ·rw[if_neg hj,if_neg hj];exact ⟨_,rfl⟩
def xp (hc:X.calm=true):cx X (.builtin "min") (λxs H Q=>∃ i j,xs=[.int i,.int j]/\Q (.int (if j<i then j else i)) H):=by
 intro Y s U H xs us Q I r h;obtain ⟨i,j,rfl,q⟩:=h;obtain ⟨u,w',rfl,⟨t,rfl⟩,⟨t',rfl⟩⟩:=vals2 r;refine min_two_ints (I.ok.hd hc) λh' tk k=>⟨_,H,I.kept k,?_,q⟩
 by_cases hj:j<i
 ·rw[if_pos hj,if_pos hj];exact ⟨_,rfl⟩
 ·rw[if_neg hj,if_neg hj];exact ⟨_,rfl⟩
def wM:cx X (.type "int") (λxs H Q=>(∃ i,xs=[.int i]/\Q (.int i) H)\/∃ k,xs=[.bl k]/\Q (.int (if k then 1 else 0)) H):=by
 intro Y s U H xs us Q I r h;rcases h with ⟨i,rfl,q⟩|⟨k,rfl,q⟩
 ·obtain ⟨u,rfl,t,rfl⟩:=vals1 r;exact call_int_int ⟨.int i,H,I,⟨_,rfl⟩,q⟩
 ·obtain ⟨u,rfl,r1⟩:=vals1 r;cases r1;exact call_int_bool ⟨.int (if k then 1 else 0),H,I.tok _,⟨_,rfl⟩,q⟩
def oj:cx X (.type "str") (λxs H Q=>∃ i,xs=[.int i]/\i.natAbs.log2<1920/\Q (.str (toString i)) H):=by
 intro Y s U H xs us Q I r h;obtain ⟨i,rfl,hz,q⟩:=h;obtain ⟨u,rfl,t,rfl⟩:=vals1 r;exact PySem.P.str_of_int hz ⟨.str _,H,I.tok _,⟨_,rfl⟩,q⟩
abbrev Jl (K:W.Frag)(x:V)(H:Hp)(n:Nat):Prop:=
 match x with
 | .str y=>y.length<=bn/\n=y.length
 | .byt y=>y.size<=bn/\n=y.size
 | .ref p=>(∃ xs,bc K H p xs/\n=xs.length)\/∃ xs,aS K H p xs/\n=xs.length
 |_=>False
def y9:cx X (.builtin "len") (λxs H Q=>∃ x n,xs=[x]/\Jl X.K x H n/\Q (.int n) H):=by
 intro Y s U H xs us Q I r h;obtain ⟨x,n,rfl,e,q⟩:=h;obtain ⟨u,rfl,rx⟩:=vals1 r;have hl:=gb;have hs:bn=16777216:=sizeLine_eq;cases x with
 |str y=>
  obtain ⟨t,rfl⟩:=rx;obtain ⟨hy,e'⟩:y.length<=bn/\n=y.length:=e;subst e';exact len_str nofun ⟨.int _,H,I.tok _,⟨_,rfl⟩,q⟩
 |byt y=>
  obtain ⟨t,rfl⟩:=rx;obtain ⟨hy,e'⟩:y.size<=bn/\n=y.size:=e;subst e';exact W.len_bytes nofun ⟨.int _,H,I.tok _,⟨_,rfl⟩,q⟩
 |ref p=>
  cases rx;have e':(∃ xs,bc X.K H p xs/\n=xs.length)\/∃ xs,aS X.K H p xs/\n=xs.length:=e;rcases e' with ⟨xs,hx,e'⟩|⟨xs,hx,e'⟩
  ·subst e';obtain ⟨its,r',pl,hz⟩:=I.list hx;have hlen:=r'.length;exact Calls.call_len_list pl.isList (by simp only[ii];omega) ⟨.int xs.length,H,I.tok _,⟨_,by simp only[ii];rw[hlen]⟩,q⟩
  ·subst e';obtain ⟨its,r',pl,hz⟩:=I.tuple hx;have hlen:=r'.length;exact len_tuple pl (by simp only[ii];omega) ⟨.int xs.length,H,I.tok _,⟨_,by simp only[ii];rw[hlen]⟩,q⟩
 |_=>exact (show False from e).elim
end
structure si (h:Heap) (x dx C:Addr) (mA:M8):Prop where
 obj:h.get? x=some (W.instObj C dx)
 ns:h.Ns1 dx mA
 ne:dx≠x
variable {mA:M8}
def iD {dx:Addr}(n:h.Ns1 dx mA):∃ od,h.get? dx=some od/\∀ name,W.lookIn name od=some (mA name):=by
 obtain ⟨o,es,ep,ho,hd,hk,_,hm⟩:=n;refine ⟨o,ho,λname=>?_⟩;have e:=hm name;unfold nsFind findBy at e;rw[<-Array.find?_toList] at e;unfold W.lookIn;rw[hd];dsimp only
 split
 ·rename_i y q;rw[q] at e;exact congrArg some e
 ·rename_i q;rw[q] at e;have a:es.toList.any (·.refKey)=false:=by
   rw[any_eq_false];intro y hy;obtain ⟨z,t,hkey⟩:=hk y (Array.mem_toList_iff.mp hy);simp[DictEntry.refKey,hkey]
  have a':¬ es.toList.any (·.refKey)=true:=by rw[a];exact Bool.false_ne_true
  rw[if_neg a'];exact congrArg some e
variable {C:Addr}
def si.look {x dx:Addr}(I:si h x dx C mA):∃ od,W.InstAt h x (W.instObj C dx) C (some od)/\∀ name,W.lookIn name od=some (mA name):=
 let ⟨od,ho,hl⟩:=iD I.ns
 ⟨od,⟨I.obj,rfl,rfl,ho⟩,hl⟩
variable {pl:Sem Bool}{kw:List (Str×Value)}
section
variable {prog:Program}{w:World}{A:Around}{E:M6}{s:Shared}{K:W.Frag}{x dx C f:Addr}{mA:M8}{name:Str}{v:Value}
def get_map {expr:Bool}(X:K.In s.heap)(I:si s.heap x dx C mA)(hg:W.plainGet K C name=true)(hh:W.hasDictIn K C=true)
  (ha:W.findIn K (.ref C) name=some none) (hv:mA name=some v) (hv':W.handedIn v=true) (h:Q v { s with toks:=s.toks+1 }):
  wpAny (model prog w) A (getAttr (.ref x) name expr) Q E s:=by
 obtain ⟨od,J,hl⟩:=I.look;exact W.get_value X J (W.plainGet_of hg).1 (W.findObj_own hh ha rfl (by rw[hl,hv])) hv' h
def yB {Q:Value×List Value->Shared->Prop}(X:K.In s.heap)(I:si s.heap x dx C mA)(hg:W.plainGet K C name=true)
  (hf:W.findIn K (.ref C) name=some (some (.ref f))) (ht:W.isFn K (.ref f)=true) (hv:mA name=none) (h:Q (.ref f,[.ref x]) s):
  wpAny (model prog w) A (getMethod (.ref x) name pl) Q E s:=by
 obtain ⟨od,J,hl⟩:=I.look;exact W.method_fn X J (W.plainGet_of hg).1 (W.plainGet_of hg).2 hf (beq_iff_eq.mp ht) (by show (W.lookIn name od).map (·.isSome)=some false;rw[hl,hv];rfl) h
def Dl {ns:List Str}{Q:M5}(X:K.In s.heap)(I:si s.heap x dx C mA)
  (hs:W.findIn K (.ref C) "__setattr__"=some (some (.builtin "object.__setattr__"))) (hp:W.plainOver K C=true) (ht:W.takerIn K C name=some none) (hh:W.hasDictIn K C=true)
  (hw:PySem.Within mA ns) (hsz:ns.length<=bn)
  (h:∀ h',si h' x dx C (λy=>if y=name then some v else mA y)->Heap.SameBut dx s.heap h'->Q () { s with heap:=h',toks:=s.toks+2 }):
  wpAny (model prog w) A (setAttr (.ref x) name v) Q E s:=by
 obtain ⟨od,J,hl⟩:=I.look;refine W.set_plain X J hs (W.osa_open (s:={ s with toks:=s.toks+1 }) (r:=none) X J hp ht λb=>?_);obtain ⟨cd,hc,hd'⟩:=W.any_some hh;have hx:s.heap.get? x=some ⟨.ref C,some dx,.plain,#[]⟩:=I.obj;refine ad (am (ad (ad (wpAny_loadPart hx (ad (W.Looks.here (s:={ s with toks:=s.toks+1 }) (W.looks_clsIn X hc) ?_))))));rw[hd'];refine am (a:=some dx) (ad (am (ad ?_)));refine wpAny_nsSet1 (s:={ s with toks:=s.toks+1 }) I.ns λh' hn2 hs2=>?_
 obtain ⟨oD,esD,epD,hoD,hdD,hcD⟩:=hn2.count (PySem.Within.cons name v hw);refine ad (wpAny_lookBehind hoD (by rw[hdD];exact pastItsLine_dict (Nat.le_trans hcD (by rw[length_cons];omega))) ?_);exact am (h _ ⟨(hs2.2 _ (Ne.symm I.ne)).trans I.obj,hn2,I.ne⟩ hs2)
def Ay {R:Result->Shared->Prop}{vs:List Value}(X:K.In s.heap)(hm:W.makesIn K C=true)
  (hi:W.findIn K (.ref C) "__init__"=some (some (.ref f))) (hf:W.typeIn K (.ref f)=some (.type "function"))
  (h:codeAny (model prog w) (A.under (.builtin "type.__call__" ⟨.ref C::vs,kw⟩)) (.call (.ref f) ⟨.ref (s.heap.objs.size+1)::vs,kw⟩) (W.InitBack (s.heap.objs.size+1) R)
   { s with heap:=(s.heap.push W.emptyDict).push (W.instObj C s.heap.objs.size) }):
  codeAny (model prog w) A (.call (.ref C) ⟨vs,kw⟩) R s:=by
 obtain ⟨hh,g,d,t,os⟩:=s;exact W.make_core (W.makes_of X hm) (W.looks_findIn X hi) (λself=>W.bind_fn X self hf) (.inl rfl) h
end
abbrev cM (f:Str)(v:V):List (Str×V)->List (Str×V)
 | []=>[(f,v)]
 |(g,x)::r=>if g=f then (g,v)::r else (g,x)::cM f v r
def d8 (f g:Str)(v:V):∀ fs:List (Str×V),(cM f v fs).lookup g=if g=f then some v else fs.lookup g
 | []=>by
  show List.lookup g [(f,v)]=_
  by_cases h:g=f
  ·have hb:(g ==f)=true:=beq_iff_eq.mpr h;simp only[List.lookup,hb,if_pos h]
  ·have hb:(g ==f)=false:=beq_eq_false_iff_ne.mpr h;simp only[List.lookup,hb,if_neg h]
 |(k,x)::r=>by
  have ih:=d8 f g v r;rw[show cM f v ((k,x)::r)=(if k=f then (k,v)::r else (k,x)::cM f v r) from rfl]
  by_cases hk:k=f
  ·rw[if_pos hk]
   by_cases h:g=k
   ·have hb:(g ==k)=true:=beq_iff_eq.mpr h;simp only[List.lookup,hb,if_pos (h.trans hk)]
   ·have hb:(g ==k)=false:=beq_eq_false_iff_ne.mpr h;simp only[List.lookup,hb,if_neg (λe:g=f=>h (e.trans hk.symm))]
  ·rw[if_neg hk]
   by_cases h:g=k
   ·have hb:(g ==k)=true:=beq_iff_eq.mpr h;simp only[List.lookup,hb,if_neg (λe:g=f=>hk (h.symm.trans e))]
   ·have hb:(g ==k)=false:=beq_eq_false_iff_ne.mpr h;simp only[List.lookup,hb];exact ih
def dg (f:Str)(v:V):∀ fs:List (Str×V),f ∈ (cM f v fs).map (·.1)/\∀ g,g ∈ fs.map (·.1)->g ∈ (cM f v fs).map (·.1)
 | []=>⟨by simp[cM],λg h=>by simp at h⟩
 |(k,x)::r=>by
  obtain ⟨i1,i2⟩:=dg f v r;rw[show cM f v ((k,x)::r)=(if k=f then (k,v)::r else (k,x)::cM f v r) from rfl]
  by_cases hk:k=f
  ·rw[if_pos hk];subst hk;exact ⟨by simp,λg h=>by simpa using h⟩
  ·rw[if_neg hk];refine ⟨?_,λg h=>?_⟩
   ·rw[map_cons];exact dL _ i1
   ·rw[map_cons] at h⊢;rcases lw.mp h with e|e
    ·exact lw.mpr (.inl e)
    ·exact dL _ (i2 g e)
def eG (f:Str)(v:V):∀ fs:List (Str×V),(cM f v fs).length<=fs.length+1
 | []=>by simp[cM]
 |(k,x)::r=>by
  have ih:=eG f v r;rw[show cM f v ((k,x)::r)=(if k=f then (k,v)::r else (k,x)::cM f v r) from rfl]
  by_cases hk:k=f
  ·rw[if_pos hk,length_cons,length_cons];omega
  ·rw[if_neg hk,length_cons,length_cons];omega
def cT.some_of {o:Option Value}(r:cT (some v) o):∃ u,o=some u/\RelV v u:=by
 cases o with
 |none=>exact (show False from r).elim
 |some u=>exact ⟨u,rfl,r⟩
def cT.none_of {o:Option Value}(r:cT none o):o=none:=by
 cases o with
 |none=>rfl
 |some u=>exact (show False from r).elim
def lT (r:RelV v u):W.handedIn u=true:=by
 cases v with
 |non=>cases (show u=Value.none from r);rfl
 |bl b=>cases (show u=Value.bool b from r);rfl
 |int i=>obtain ⟨t,e⟩:=(show ∃ t,u=Value.int i t from r);cases e;rfl
 |str x=>obtain ⟨t,e⟩:=(show ∃ t,u=Value.str x t from r);cases e;rfl
 |byt b=>obtain ⟨t,e⟩:=(show ∃ t,u=Value.bytes b t from r);cases e;rfl
 |flt b=>obtain ⟨t,e⟩:=(show ∃ t,u=Value.float b t from r);cases e;rfl
 |ref a=>cases (show u=Value.ref a from r);rfl
 |ty n=>cases (show u=Value.type n from r);rfl
section
variable {P:Program}{w:World}{H H':Hp}{h h':Heap}{a C dx:Addr}{fs fs':List (Str×V)}
def ft (hok:gq P w H h)(e:H a=some (.ins C dx fs)):∃ mA,si h a dx C mA/\(∀ f,cT (fs.lookup f) (mA f))/\PySem.Within mA (fs.map (·.1))/\fs.length<=1000/\H dx=some (.own a):=by
 obtain ⟨d,z,ne,ob,mA,n,r,q⟩:=(show ay P w H h a (.ins C dx fs) from hok a _ e);exact ⟨mA,⟨ob,n,ne⟩,r,q,z,d⟩
end
structure Cs (K:W.Frag) (C:Addr):Prop where
 pg:W.plainGet K C Str.empty=true
 hd:W.hasDictIn K C=true
 po:W.plainOver K C=true
 sa:W.findIn K (.ref C) "__setattr__"=some (some (.builtin "object.__setattr__"))
def Cs.get (c:Cs K C)(f:Str):W.plainGet K C f=true:=c.pg
abbrev et (K:W.Frag)(C:Addr)(f:Str):Prop:=W.findIn K (.ref C) f=some none
def et.IK {f:Str}(n:et K C f):W.takerIn K C f=some none:=by
 unfold W.takerIn;rw[show W.findIn K (.ref C) f=some none from n]
 rfl
structure Meth (K:W.Frag) (C:Addr) (m:Str) (f:Addr):Prop where
 at_:W.findIn K (.ref C) m=some (some (.ref f))
 fn:W.isFn K (.ref f)=true
 kp:W.keepIn K (.ref f)=true
section
variable {X:Cx}{Y:M7}{U:St}{H:Hp}{s:Shared}{a C dx:Addr}{fs:List (Str×V)}{f:Str}{v:V}{A:Around}{E:M6}
def rL {b:Bool}(I:Inv X Y U H s)(e:H a=some (.ins C dx fs))(c:Cs X.K C)(n:et X.K C f)(l:fs.lookup f=some v)
  (h:∀ u s',Inv X Y U H s'->RelV v u->Q u s'):wpAny (model X.prog X.w) A (getAttr (.ref a) f b) Q E s:=by
 obtain ⟨mA,O,r,_,_,_⟩:=ft I.hok e;obtain ⟨u,hu,ru⟩:=cT.some_of (v:=v) (o:=mA f) (by rw[<-l];exact r f);exact get_map I.bO O (c.get f) c.hd n hu (lT ru) (h u _ (I.tok _) ru)
def sP {m:Str}{g:Addr}{Q:Value×List Value->Shared->Prop}(I:Inv X Y U H s)(e:H a=some (.ins C dx fs))(c:Cs X.K C)(k:Meth X.K C m g)(l:fs.lookup m=none)
  (h:Q (.ref g,[.ref a]) s):wpAny (model X.prog X.w) A (getMethod (.ref a) m pl) Q E s:=by
 obtain ⟨mA,O,r,_,_,_⟩:=ft I.hok e;have hn:mA m=none:=cT.none_of (by rw[<-l];exact r m);exact yB I.bO O (c.get m) k.at_ k.fn hn h
def sL {y:V}{Q:M5}(I:Inv X Y U H s)(e:H a=some (.ins C dx fs))(c:Cs X.K C)(n:et X.K C f)(hl:fs.length<1000)(ry:RelV y u)
  (h:∀ s',Inv X Y U (upd H a (.ins C dx (cM f y fs))) s'->Q () s'):wpAny (model X.prog X.w) A (setAttr (.ref a) f u) Q E s:=by
 obtain ⟨mA,O,r,wi,_,ho⟩:=ft I.hok e;have hz:(fs.map (·.1)).length<=bn:=by rw[ci,sizeLine_eq];omega
 refine Dl I.bO O c.sa c.po n.IK c.hd wi hz λh' O' sb=>h _ ?_
 have hd:∃ o,h'.get? dx=some o:=let ⟨o,_,_,e',_⟩:=O'.ns;⟨o,e'⟩;refine I.write (x:=a) (e:=dx) (by rw[e];exact True.intro) (.inr ho) (λb q hb z=>(sb.2 b hb).trans z) hd ?_;refine ⟨by rw[ag O.ne];exact ho,?_,O.ne,O'.obj,_,O'.ns,λg=>?_,λg hg=>?_⟩
 ·have:=eG f y fs;omega
 ·show cT ((cM f y fs).lookup g) (if g=f then some u else mA g);rw[d8]
  by_cases q:g=f
  ·rw[if_pos q,if_pos q];exact ry
  ·rw[if_neg q,if_neg q];exact r g
 ·by_cases q:g=f
  ·rw[q];exact (dg f y fs).1
  ·refine (dg f y fs).2 g (wi g λz=>hg ?_);show (if g=f then some u else mA g)=none;rw[if_neg q];exact z
def Inv.made (I:Inv X Y U H s):Inv X Y U (upd (upd H s.heap.objs.size (.own (s.heap.objs.size+1))) (s.heap.objs.size+1) (.ins C s.heap.objs.size []))
  { s with heap:=(s.heap.push W.emptyDict).push (W.instObj C s.heap.objs.size) }:=by
 have e1:(s.heap.push W.emptyDict).get? s.heap.objs.size=some W.emptyDict:=ul s.heap rfl;have e2:((s.heap.push W.emptyDict).push (W.instObj C s.heap.objs.size)).get? (s.heap.objs.size+1)=some (W.instObj C s.heap.objs.size):=by
  have:=ul (s.heap.push W.emptyDict) (o:=W.instObj C s.heap.objs.size) rfl
  rwa [Heap.size_push] at this
 have e3:(s.heap.push W.emptyDict).Ns s.heap.objs.size (λ_=>none):=⟨W.emptyDict,#[],_,e1,rfl,(λe he=>absurd he (by simp)),λ_=>rfl⟩;have I1:=I.laid (a:=s.heap.objs.size) (o:=.own (s.heap.objs.size+1)) (h':=s.heap.push W.emptyDict) (t':=s.toks) (λb u q=>tz _ q) (pi _) ⟨_,e1⟩;refine I1.laid (a:=s.heap.objs.size+1) (o:=.ins C s.heap.objs.size []) (t':=s.toks) (λb u q=>tz _ q) (Nat.le_of_eq (Heap.size_push _ _)) ?_;have ne:s.heap.objs.size≠s.heap.objs.size+1:=pc (Nat.lt_succ_self _);refine ⟨by rw[ag ne,av],Nat.zero_le _,ne,e2,λ_=>none,(Heap.Ns1.of_empty e3).at λo q=>tz _ q,λ_=>True.intro,λy hy=>absurd rfl hy⟩
def Dx {prog:Program}{env:Env}(hb:attributeBase e f env (eval e env)=eval e env)
  (h:wpAny (model prog w) A (eval e env) (λo s₁=>wpAny (model prog w) A (getAttr o f true) Q E s₁) E s):wpAny (model prog w) A (eval (.Attribute e f pos) env) Q E s:=
 Attribute_any_ h (by rw[arm_eval_Attribute,hb])
end
section
variable {X:Cx}{o e value:Expr}{f:Str}{pos pos' tpos:Pos}{ta tv:TE}
end
section
variable {X:Cx}{Y:M7}{U:St}{H:Hp}{s:Shared}{A:Around}{E:M6}{Q:M6}{c:Value}{b:Bool}
inductive ij (K:W.Frag) (H:Hp):V->Value->Prop where
 |non:ij K H .non (.type "NoneType")
 |bl (x:Bool):ij K H (.bl x) (.type "bool")
 |int (i:Int):ij K H (.int i) (.type "int")
 |str (x:Str):ij K H (.str x) (.type "str")
 |flt (x:UInt64):ij K H (.flt x) (.type "float")
 |lst {a:Addr}{xs:List V}(e:H a=some (.lst xs)):ij K H (.ref a) (.type "list")
 |frz {a:Addr}{o:Obj}{xs:List V}(e:H a=some (.frz o (.lst xs))):ij K H (.ref a) (.type "list")
 |tup {a:Addr}{xs:List V}(e:H a=some (.tup xs)):ij K H (.ref a) (.type "tuple")
 |dK {a:Addr}{kvs:List (Key×V)}(e:H a=some (.dK kvs)):ij K H (.ref a) (.type "dict")
 |dT {a:Addr}{kvs:List (List Key×V)}(e:H a=some (.dT kvs)):ij K H (.ref a) (.type "dict")
 |ins {a C dx:Addr}{fs:List (Str×V)}(e:H a=some (.ins C dx fs)) (cl:Cs K C) (ha:W.findIn K (.ref C) "__class__"=some (some (.builtin "object.__class__")))
   (hn:W.specialIn K (.builtin "object.__class__") "__get__"=some (some (.builtin "getset_descriptor.__get__"))) (htk:W.takesIn K (.builtin "object.__class__")=some true)
   (hm:W.mroIn K C (.type "object")=some true):ij K H (.ref a) (.ref C)
def iH {x:V}{t:Value}(I:Inv X Y U H s)(rx:RelV x u)(ty:ij X.K H x t)(e:W.kitOne X.K t c=some b)(h:∀ tk,Q (.bool b) { s with toks:=tk }):
  wpAny (model X.prog X.w) A (call (.builtin "isinstance") [u,c]) Q E s:=by
 cases ty with
 |non=>cases (show u=Value.none from rx);exact W.kia_one W.kitx_none I.bO True.intro e (λz=>nomatch z) h
 |bl y=>cases (show u=Value.bool y from rx);exact W.kia_one W.kitx_bool I.bO True.intro e (λz=>nomatch z) h
 |int i=>obtain ⟨t,q⟩:=(show ∃ t,u=Value.int i t from rx);cases q;exact W.kia_one W.kitx_int I.bO True.intro e (λz=>nomatch z) h
 |str y=>obtain ⟨t,q⟩:=(show ∃ t,u=Value.str y t from rx);cases q;exact W.kia_one W.kitx_str I.bO True.intro e (λz=>nomatch z) h
 |flt y=>obtain ⟨t,q⟩:=(show ∃ t,u=Value.float y t from rx);cases q;exact W.kia_one W.kitx_float I.bO True.intro e (λz=>nomatch z) h
 | @lst a xs ea=>
  cases (show u=Value.ref a from rx);obtain ⟨_,_,n,_,h1⟩:=(show ay X.prog X.w H s.heap a (.lst xs) from I.hok a _ ea);exact W.kia_one W.kitx_list I.bO ⟨_,h1,rfl⟩ e (λz=>nomatch z) h
 | @frz a ob xs ea=>
  cases (show u=Value.ref a from rx);obtain ⟨_,_,_,n,_,h1⟩:=(show ay X.prog X.w H s.heap a (.frz ob (.lst xs)) from I.hok a _ ea);exact W.kia_one W.kitx_list I.bO ⟨_,h1,rfl⟩ e (λz=>nomatch z) h
 | @tup a xs ea=>
  cases (show u=Value.ref a from rx);obtain ⟨_,_,_,p⟩:=(show ay X.prog X.w H s.heap a (.tup xs) from I.hok a _ ea);obtain ⟨o,h1,h2,_⟩:=p;exact W.kia_one W.kitx_tuple I.bO ⟨o,h1,h2⟩ e (λz=>nomatch z) h
 | @dK a kvs ea=>
  cases (show u=Value.ref a from rx);obtain ⟨_,_,vs,_,p⟩:=(show ay X.prog X.w H s.heap a (.dK kvs) from I.hok a _ ea);obtain ⟨o,es,ep,h1,h2,_⟩:=p;exact W.kia_one W.kitx_dict I.bO ⟨o,h1,h2.1⟩ e (λz=>nomatch z) h
 | @dT a kvs ea=>
  cases (show u=Value.ref a from rx);obtain ⟨_,_,xs,_,o,es,ep,h1,h2,_⟩:=(show ay X.prog X.w H s.heap a (.dT kvs) from I.hok a _ ea);exact W.kia_one W.kitx_dict I.bO ⟨o,h1,h2.1⟩ e (λz=>nomatch z) h
 | @ins a C dx fs ea cl ha hn htk hm=>
  cases (show u=Value.ref a from rx);obtain ⟨mA,O,_⟩:=ft I.hok ea;obtain ⟨od,J,_⟩:=O.look;exact W.kia_one (W.kitx_own (cl.get _) cl.hd ha hn htk hm) I.bO J e (λz=>nomatch z) h
end
structure bP (k:Nat) (A:Around):Prop where
 hd:A.handled=none
 dp:A.depth+3*k+5<recursionLimit
 un:A.units+16*k+200<cLine
def bP.mono {j:Nat}(r:bP k A)(h:j<=k):bP j A:=⟨r.hd,by have:=r.dp;omega,by have:=r.un;omega⟩
def bP.deeper (r:bP (k+1) A)(env:Env):bP k (A.deeper env):=
 ⟨r.hd,by have:=r.dp;show A.depth+1+3*k+5<_;omega,by have:=r.un;show A.units+3+16*k+200<_;omega⟩
def tw:(A.under (.builtin "type.__call__" ⟨.ref C::us,kw⟩)).depth=A.depth+1:=by
 first|rfl|simp[Around.under,Code.weight,Code.isCreation,Code.isGuard,Code.isCaller,Code.frames,Code.isFrame,guardIds]
def tW:(A.under (.builtin "type.__call__" ⟨.ref C::us,kw⟩)).units=A.units+1:=by
 first|rfl|simp[Around.under,Code.cUnits,Code.frames,Code.isFrame]
def bP.make (r:bP (k+1) A)(C:Addr)(us:List Value)(kw:List (Str×Value)):bP k (A.under (.builtin "type.__call__" ⟨.ref C::us,kw⟩)):=
 ⟨r.hd,by have:=r.dp;rw[tw];omega,by have:=r.un;rw[tW];omega⟩
def bP.depth (r:bP k A):A.depth<recursionLimit:=by have:=r.dp;omega
abbrev C7:TA:=λ_ H Q=>Q [] H
abbrev EI (ta:TE)(tr:TA):TA:=λU H Q=>ta U H λx H1=>tr U H1 λxs H2=>Q (x::xs) H2
section
variable {X:Cx}{e:Expr}{es:List Expr}{te:TE}{t:TA}{pos:Pos}
def cn:PA X [] C7:=λ_ _ _ _ H Q I h=>Calls.spliced_nil ⟨[],H,I,.nil,h⟩
def Dw (ha:PE X e te)(hr:PA X es t)(hs:bm (e::es) X.env=(false,eval e X.env)::bm es X.env:=by rfl):PA X (e::es) (EI te t):=by
 intro pos Y s U H Q I h;rw[hs];show wpAny _ _ (spliced ((false,eval e X.env)::backTo pos (bm es X.env))) _ _ s;refine Calls.spliced_cons (ax (ha Y s U H _ I h) λu s1 ⟨x,H1,I1,r1,q1⟩=>?_);exact ax (hr pos Y s1 U H1 _ I1 q1) λus s2 ⟨xs,H2,I2,r2,q2⟩=>⟨x::xs,H2,I2,.cons r1 r2,q2⟩
abbrev La (t:TA):TE:=λU H Q=>t U H λxs H1=>xs.length<=bn/\∀ p,H1 p=none->Q (.ref p) (upd H1 p (.tup xs))
abbrev LJ (t:TA):TE:=λU H Q=>t U H λxs H1=>xs.length<=bn/\∀ p,H1 p=none->Q (.ref p) (upd H1 p (.lst xs))
def Ad {x1} (h:PA X es t):PE X (.Tuple es x1 pos) (La t):=by
 intro Y s U H Q I hq;refine wpAny_Tuple_spliced (ax (h pos Y s U H _ I hq) λus s1 ⟨xs,H1,I1,r,z,q⟩=>⟨by rw[<-r.length];exact z,?_⟩);have hf:H1 s1.heap.objs.size=none:=I1.hok.fresh (pi _);refine ⟨.ref s1.heap.objs.size,upd H1 s1.heap.objs.size (.tup xs),I1.laid (t':=s1.toks) (λb u e=>tz _ e) (pi _) ?_,rfl,q _ hf⟩;exact ⟨z,us,r,⟨_,ul _ rfl,rfl,_,rfl⟩⟩
def FK (h:PA X es t):PE X (.List es pos) (LJ t):=by
 intro Y s U H Q I hq;refine wpAny_List_spliced (ax (h pos Y s U H _ I hq) λus s1 ⟨xs,H1,I1,r,z,q⟩=>⟨by rw[<-r.length];exact z,?_⟩);have hf:H1 s1.heap.objs.size=none:=I1.hok.fresh (pi _);refine ⟨.ref s1.heap.objs.size,upd H1 s1.heap.objs.size (.lst xs),I1.laid (t':=s1.toks) (λb u e=>tz _ e) (pi _) ?_,rfl,q _ hf⟩;exact ⟨z,us,0,r,ul _ rfl⟩
end
@[reducible]def Sp:=List V->Hp->VK->XK->Prop
@[reducible]def uw:=List Env->Hp->Shared->XK->Value->Shared->Prop
structure sV (P:Program) (w:World) (K:W.Frag) (mg:M8) (base:Heap) (A:Around) (outer:List Env) (s:Shared) (H:Hp):Prop where
 frames:A.frames=some outer
 mod:Mod K mg base
 bs:∀ b o,base.get? b=some o->s.heap.get? b=some o/\H b=none
 bsz:base.objs.size<=s.heap.objs.size
 jz:s.heap.FunFrames base outer
 frf:∀ b ∈ n6 outer,H b=none
 hok:gq P w H s.heap
 bare:AllBare s.gens
abbrev CE (outer:List Env)(P:Program)(w:World)(H:Hp)(s:Shared)(Q:VK)(u:Value)(s':Shared):Prop:=
 ∃ v H',s'.os=s.os/\AllBare s'.gens/\Un (n6 outer) [] H H' s.heap s'.heap/\gq P w H' s'.heap/\RelV v u/\Q v H'
abbrev CR (CX:uw)(outer:List Env)(P:Program)(w:World)(H:Hp)(s:Shared)(Q:VK)(E:XK)(r:Result)(s':Shared):Prop:=
 match r with
 | .ok (.ret u)=>CE outer P w H s Q u s'
 | .ok _=>False
 | .error e=>CX outer H s E e s'
structure c9 (P:Program) (w:World) (K:W.Frag) (mg:M8) (base:Heap) (CX:uw) (k:Nat) (f:Addr) (fd:FuncData) (ps:List Str) (sp:Sp):Prop where
 len:∀ vs H Q E,sp vs H Q E->vs.length=ps.length
 run:∀ (A:Around) (outer:List Env) (s:Shared) (H:Hp) (args:Args) (us:List Value) (vs:List V) (Q:VK) (E:XK),bP k A->sV P w K mg base A outer s H->BindsTo s fd args (ps.zip us)->Vals vs us->sp vs H Q E->
  codeAny (model P w) A (.call (.ref f) args) (CR CX outer P w H s Q E) s
variable {mg:M8}{base:Heap}{CX:uw}{fd:FuncData}{ps:List Str}
def c9.imp {f:Addr}{sp sp':Sp}(F:c9 P w K mg base CX k f fd ps sp)
  (h:∀ vs H Q E,sp' vs H Q E->sp vs H Q E):c9 P w K mg base CX k f fd ps sp':=
 ⟨λvs H Q E q=>F.len vs H Q E (h _ _ _ _ q),λA outer s H args us vs Q E hr he hb hv hs=>F.run A outer s H args us vs Q E hr he hb hv (h _ _ _ _ hs)⟩
variable {outer:List Env}
def sV.make (e:sV P w K mg base A outer s H)(C:Addr)(us:List Value)(kw:List (Str×Value)):
  sV P w K mg base (A.under (.builtin "type.__call__" ⟨.ref C::us,kw⟩)) outer s H:=⟨by first|exact e.frames|(simpa [Around.under,Code.envs,Code.isFrame,pushEnvs] using e.frames),e.mod,e.bs,e.bsz,e.jz,e.frf,e.hok,e.bare⟩
section
variable {X:Cx}{Y:M7}{U:St}{H:Hp}{s s':Shared}
def Inv.ir (I:Inv X Y U H s):sV X.prog X.w X.K X.mg X.base X.A X.stack s H:=
 ⟨I.ok.frames,I.ok.mod,I.bs,Nat.le_trans I.ok.bsz I.sz,I.stack,I.nO,I.hok,I.bare⟩
def Inv.after {Q:VK}(I:Inv X Y U H s)(h:CE X.stack X.prog X.w H s Q u s'):EP X Y U Q u s':=by
 obtain ⟨v,H',os,bare,un,hok,r,q⟩:=h;obtain ⟨hh,g,d,t,os'⟩:=s';obtain rfl:os'=s.os:=os;exact ⟨v,H',I.call (h':=hh) (g':=g) (d':=d) (t':=t) (ch:=[]) un hok bare (λb z=>absurd z (by simp)),r,q⟩
end
abbrev D6 (sp:Sp)(dvs:List V)(E:St->XK)(t:TA):TE:=λU H Q=>t U H λvs H1=>sp (vs++dvs) H1 Q (E U)
abbrev Ec (C:Addr)(sp:Sp)(dvs:List V)(E:St->XK)(t:TA):TE:=λU H Q=>t U H λvs H1=>∀ x dx,H1 x=none->H1 dx=none->dx≠x->
 sp (.ref x::(vs++dvs)) (upd (upd H1 dx (.own x)) x (.ins C dx [])) (λv H2=>v=.non/\Q (.ref x) H2) (E U)
abbrev Binds (K:W.Frag)(fd:FuncData)(ps:List Str)(ds:List Value):Prop:=
 ∀ (s:Shared) (us:List Value),K.In s.heap->(us++ds).length=ps.length->BindsTo s fd ⟨us,[]⟩ (ps.zip (us++ds))
def Binds.all (h:∀ us:List Value,us.length=ps.length->bindArgs fd ⟨us,[]⟩=pure (ps.zip us)):Binds K fd ps []:=λs us _ hl=>by
 rw[append_nil] at hl⊢;exact .of_eq (h us hl)
abbrev Passes (CX:uw)(X:Cx)(E:St->XK):Prop:=∀ (Y:M7) (U:St) (H:Hp) (s:Shared) (e:Value) (s':Shared),Inv X Y U H s->CX X.stack H s (E U) e s'->X.xe e s'
variable {vs:List V}
section
variable {X:Cx}{CX:uw}{k:Nat}{f C:Addr}{fd:FuncData}{ps:List Str}{sp:Sp}{dvs:List V}{ds:List Value}{E:St->XK}{x m:Str}{p pos apos:Pos}{e o:Expr}{es:List Expr}{ta:TE}{t:TA}
def nZ {Q:VK}(F:c9 X.prog X.w X.K X.mg X.base CX k f fd ps sp)(hr:bP k X.A)(hb:Binds X.K fd ps ds)(hd:Vals dvs ds)(hx:Passes CX X E)
  (I:Inv X Y U H s) (r:Vals vs us) (h:sp (vs++dvs) H Q (E U)):wpAny (model X.prog X.w) X.A (call (.ref f) us) (EP X Y U Q) X.xe s:=by
 have r2:Vals (vs++dvs) (us++ds):=r.append hd;have hl:(us++ds).length=ps.length:=by rw[<-r2.length];exact F.len _ _ _ _ h
 refine wpAny_call (codeAny_mono (F.run X.A X.stack s H ⟨us,[]⟩ (us++ds) (vs++dvs) Q (E U) hr I.ir (hb s us I.bO hl) r2 h) λr s' hq=>?_);cases r with
 |error e=>exact hx Y U H s e s' I hq
 |ok fl=>
  cases fl with
  |ret u=>exact I.after hq
  |next=>exact False.elim hq
  |brk=>exact False.elim hq
  |cont=>exact False.elim hq
def Cq (F:c9 X.prog X.w X.K X.mg X.base CX k f fd ps sp)(hr:bP k X.A)(hg:Gl X x)(hm:X.mg x=some (.ref f))(hk:W.keepIn X.K (.ref f)=true)(hb:Binds X.K fd ps ds)(hd:Vals dvs ds)(hx:Passes CX X E)
  (ha:PA X (e::es) t) (hdb:(x ==("__debug__":Str))=false:=by decide) (he:bm (e::es) X.env=(false,eval e X.env)::bm es X.env:=by rfl) (hpl:(backTo pos (bm es X.env)).any (·.1)=false:=by rfl):
  PE X (.Call (.Name x p) (e::es) [] pos) (D6 sp dvs E t):=by
 intro Y s U H Q I h;refine bv (bE I hg hm ?_ hdb);refine W.callWith_K (h₀:=X.base) I.ok.mod.kin hk (ax (ha pos Y s U H _ I h) λus s1 ⟨vs,H1,I1,r,q⟩=>⟨I1.bO,?_⟩) he hpl;exact nZ F hr hb hd hx I1 r q
def yT (F:c9 X.prog X.w X.K X.mg X.base CX k f fd ps sp)(hr:bP k X.A)(hg:Gl X x)(hm:X.mg x=some (.ref f))(hk:W.keepIn X.K (.ref f)=true)(hb:Binds X.K fd ps ds)(hd:Vals dvs ds)(hx:Passes CX X E)
  (hdb:(x ==("__debug__":Str))=false:=by decide):PE X (.Call (.Name x p) [] [] pos) (D6 sp dvs E C7):=by
 intro Y s U H Q I h;refine bv (bE I hg hm ?_ hdb);exact W.callWith_K0 I.bO hk (nZ (us:=[]) F hr hb hd hx I .nil h)
structure Mk (K:W.Frag) (C f:Addr):Prop where
 makes:W.makesIn K C=true
 init:W.findIn K (.ref C) "__init__"=some (some (.ref f))
 fn:W.isFn K (.ref f)=true
 kp:W.keepIn K (.ref C)=true
def pG {Q:VK}(M:Mk X.K C f)(F:c9 X.prog X.w X.K X.mg X.base CX k f fd ps sp)(hr:bP (k+1) X.A)(hb:Binds X.K fd ps ds)(hd:Vals dvs ds)
  (hx:Passes CX X E) (I:Inv X Y U H s) (r:Vals vs us)
  (h:∀ x dx,H x=none->H dx=none->dx≠x->sp (.ref x::(vs++dvs)) (upd (upd H dx (.own x)) x (.ins C dx [])) (λv H2=>v=.non/\Q (.ref x) H2) (E U)):
  wpAny (model X.prog X.w) X.A (call (.ref C) us) (EP X Y U Q) X.xe s:=by
 have hq:=h (s.heap.objs.size+1) s.heap.objs.size (I.hok.fresh (Nat.le_succ _)) (I.hok.fresh (pi _)) (pc (Nat.lt_succ_self _));have I2:=Inv.made (C:=C) I;have r2:Vals (V.ref (s.heap.objs.size+1)::(vs++dvs)) (Value.ref (s.heap.objs.size+1)::(us++ds)):=.cons rfl (r.append hd);have hl:(Value.ref (s.heap.objs.size+1)::us++ds).length=ps.length:=by
  have e:=r2.length;rw[F.len _ _ _ _ hq] at e;exact e.symm
 refine wpAny_call (Ay (f:=f) I.bO M.makes M.init (beq_iff_eq.mp M.fn) (codeAny_mono (F.run _ X.stack _ _ ⟨Value.ref (s.heap.objs.size+1)::us,[]⟩ (Value.ref (s.heap.objs.size+1)::(us++ds)) _ _ (E U) (hr.make C us [])
  (I2.ir.make C us []) (hb _ (Value.ref (s.heap.objs.size+1)::us) I2.bO hl) r2 hq) λr s' hq'=>?_))
 cases r with
 |error e=>exact hx Y U _ _ e s' I2 hq'
 |ok fl=>
  cases fl with
  |ret u=>
   obtain ⟨v,H',I3,rv,ev,q3⟩:=I2.after hq';subst ev;exact ⟨rv,⟨V.ref (s.heap.objs.size+1),H',I3,rfl,q3⟩⟩
  |next=>exact False.elim hq'
  |brk=>exact False.elim hq'
  |cont=>exact False.elim hq'
def B5 (M:Mk X.K C f)(F:c9 X.prog X.w X.K X.mg X.base CX k f fd ps sp)(hr:bP (k+1) X.A)(hg:Gl X x)(hm:X.mg x=some (.ref C))(hb:Binds X.K fd ps ds)(hd:Vals dvs ds)(hx:Passes CX X E)
  (ha:PA X (e::es) t) (hdb:(x ==("__debug__":Str))=false:=by decide) (he:bm (e::es) X.env=(false,eval e X.env)::bm es X.env:=by rfl) (hpl:(backTo pos (bm es X.env)).any (·.1)=false:=by rfl):
  PE X (.Call (.Name x p) (e::es) [] pos) (Ec C sp dvs E t):=by
 intro Y s U H Q I h;refine bv (bE I hg hm ?_ hdb);refine W.callWith_K (h₀:=X.base) I.ok.mod.kin M.kp (ax (ha pos Y s U H _ I h) λus s1 ⟨vs,H1,I1,r,q⟩=>⟨I1.bO,?_⟩) he hpl;exact pG M F hr hb hd hx I1 r q
def AL (M:Mk X.K C f)(F:c9 X.prog X.w X.K X.mg X.base CX k f fd ps sp)(hr:bP (k+1) X.A)(hg:Gl X x)(hm:X.mg x=some (.ref C))(hb:Binds X.K fd ps ds)(hd:Vals dvs ds)(hx:Passes CX X E)
  (hdb:(x ==("__debug__":Str))=false:=by decide):PE X (.Call (.Name x p) [] [] pos) (Ec C sp dvs E C7):=by
 intro Y s U H Q I h;refine bv (bE I hg hm ?_ hdb);exact W.callWith_K0 I.bO M.kp (pG (us:=[]) M F hr hb hd hx I .nil h)
end
section
variable {X:Cx}{CX:uw}{k:Nat}{f C:Addr}{fd:FuncData}{ps ks:List Str}{sp:Sp}{E:St->XK}{x m:Str}{p pos apos kpos:Pos}{e o:Expr}{es:List Expr}{kws:List Keyword}{te ta:TE}{t tk:TA}{nm:Option Str}
variable {g:List Value->List Value->List Value}{gV:List V->List V->List V}
end
structure jM (N P:List Str) (sc:Scope):Prop where
 kind:sc.kind=.function
 co:sc.isCoroutine=false
 gen:sc.isGenerator=false
 nd:N.Nodup
 pre:N.take P.length=P
 par:∀ x ∈ P,sc.names.lookup x=some .local\/sc.names.lookup x=some .cell
 nofree:∀ y ∈ sc.names,y.2≠.free
def lV {kindOf:Str->Option NameKind}{x:Str}:∀ {binds:List (Str×Value)}{m:M8},(∀ v,(x,v) ∉ binds)->bindL kindOf binds m x=m x
 | [],_,_=>rfl
 |(n,v)::r,m,h=>by
  unfold bindL;rw[lV λw hw=>h w (dL _ hw)]
  split
  ·have:x≠n:=by rintro rfl;exact h v lv
   simp[this]
  ·rfl
def lY {kindOf:Str->Option NameKind}{x:Str}:∀ {binds:List (Str×Value)}{m:M8},(∀ v,(x,v) ∉ binds)->bindC kindOf binds m x=m x
 | [],_,_=>rfl
 |(n,v)::r,m,h=>by
  unfold bindC;rw[lY λw hw=>h w (dL _ hw)]
  split
  ·rfl
  ·have:x≠n:=by rintro rfl;exact h v lv
   simp[this]
def lW {kindOf:Str->Option NameKind}{x:Str}{v:Value}:∀ {P:List Str}{vs:List Value}{i:Nat}{m:M8},P.Nodup->P[i]? =some x->vs[i]? =some v->kindOf x=some .local->
  bindL kindOf (P.zip vs) m x=some v
 | [],_,_,_,_,h,_,_=>by simp at h
 |_::_,[],_,_,_,_,h,_=>by simp at h
 |p::P,w::vs,0,m,nd,h1,h2,hk=>by
  simp at h1 h2;subst h1;subst h2;show bindL kindOf ((p,w)::P.zip vs) m p=_;unfold bindL;rw[lV λv hv=>(nodup_cons.mp nd).1 (of_mem_zip hv).1,if_pos hk];simp
 |p::P,w::vs,i+1,m,nd,h1,h2,hk=>by
  show bindL kindOf ((p,w)::P.zip vs) m x=_;unfold bindL;exact lW (i:=i) (nodup_cons.mp nd).2 (by simpa using h1) (by simpa using h2) hk
def lQ {kindOf:Str->Option NameKind}{x:Str}{v:Value}:∀ {P:List Str}{vs:List Value}{i:Nat}{m:M8},P.Nodup->P[i]? =some x->vs[i]? =some v->kindOf x≠some .local->
  bindC kindOf (P.zip vs) m x=some v
 | [],_,_,_,_,h,_,_=>by simp at h
 |_::_,[],_,_,_,_,h,_=>by simp at h
 |p::P,w::vs,0,m,nd,h1,h2,hk=>by
  simp at h1 h2;subst h1;subst h2;show bindC kindOf ((p,w)::P.zip vs) m p=_;unfold bindC;rw[lY λv hv=>(nodup_cons.mp nd).1 (of_mem_zip hv).1,if_neg hk];simp
 |p::P,w::vs,i+1,m,nd,h1,h2,hk=>by
  show bindC kindOf ((p,w)::P.zip vs) m x=_;unfold bindC;exact lQ (i:=i) (nodup_cons.mp nd).2 (by simpa using h1) (by simpa using h2) hk
abbrev start (N:List Str)(vs:List V):St:=vs.map some++sw (N.length-vs.length) none
abbrev wg (CX:uw)(P:Program)(w:World)(K:W.Frag)(mg:M8)(base:Heap)(N:List Str)(qual:Str)(scope:Scope)(f:Addr)(cd:Value)(A:Around)(outer:List Env)(s:Shared)(H:Hp)(E:XK):Cx where
 prog:=P
 w:=w
 K:=K
 mg:=mg
 base:=base
 A:=A.deeper (envOfC qual scope s.heap.objs.size f cd)
 N:=N
 s₀:=s
 H₀:=H
 env:=envOfC qual scope s.heap.objs.size f cd
 outer:=outer
 stack:=envOfC qual scope s.heap.objs.size f cd::outer
 ex:=[]
 calm:=true
 fn:=λ_=>true
 pn:=[]
 xe:=λe s'=>wpAny (model P w) (A.deeper (envOfC qual scope s.heap.objs.size f cd)) (leaving (envOfC qual scope s.heap.objs.size f cd) e) (λ_ s''=>CX outer H s E e s'') (λe' s''=>CX outer H s E e' s'') s'
def qE {sc:Scope}{n:Nat}(h:sc.names.lookup x=some .cell):∃ c,(cellsFrom n sc.names []).lookup x=some c:=by
 have q:=W.cellsFrom_some sc.names n [] (.inl h);exact Option.isSome_iff_exists.mp q
variable {scope:Scope}
def xa {N:List Str}{qual:Str}{f:Addr}{cd:Value}{s1:Shared}{E:XK}
  (S:jM N ps scope) (hd:A.handled=none) (e0:sV P w K mg base A outer s H) (hl:vs.length=ps.length) (r:Vals vs us)
  (x:InCallC s s.heap.objs.size (bindL (envOfC qual scope s.heap.objs.size f cd).kindOf (ps.zip us) λ_=>none) (cellsFrom (s.heap.objs.size+1) scope.names []) (bindC (envOfC qual scope s.heap.objs.size f cd).kindOf (ps.zip us) λ_=>none) s1):
  Inv (wg CX P w K mg base N qual scope f cd A outer s H E) [] (start N vs) H s1:=by
 have hpl:ps.length<=N.length:=by have:=congrArg List.length S.pre;rw[dl] at this;omega
 obtain ⟨h1,tk,rfl,hk⟩:=x.done;have noA:∀ b:Addr,b ∉ (wg CX P w K mg base N qual scope f cd A outer s H E).ex:=λb z=>absurd (show b ∈ ([]:List Addr) from z) (by simp)
 refine ⟨⟨e0.mod,S.kind,rfl,rfl,pi _,λy z c h1 h2=>?_,λy hy=>?_,λy c _ h=>?_,λ_=>hd,Around.frames_deeper e0.frames,.inr ⟨rfl,rfl⟩,λb z=>absurd z (noA b),e0.bs,e0.bsz,λb _ _=>noA b,λb z=>absurd z (noA b),e0.jz,e0.frf⟩,
  rfl,e0.bare,Un.kept hk,⟨_,x.toInCall.ns,λi y v h1 h2 h3=>?_⟩,λy c h=>⟨_,x.cell y c h⟩,e0.hok.fresh (pi _),λy c h=>?_,λp hp=>absurd (show p ∈ ([]:M7) from hp) (by simp),e0.hok.kept hk,?_⟩
 ·exact name_of_addr x.apart (PySem.mem_of_lookup h1) (PySem.mem_of_lookup h2)
 ·have hy:scope.names.lookup y=some .cell\/scope.names.lookup y=some .free:=hy;rcases hy with hy|hy
  ·exact qE hy
  ·exact absurd rfl (S.nofree _ (PySem.mem_of_lookup hy))
 ·exact Nat.le_of_lt (x.above y c (PySem.mem_of_lookup h))
 ·have hi:i<vs.length:=by
   unfold start at h2
   by_cases hi:i<vs.length
   ·exact hi
   ·rw[getElem?_append_right (by simpa using hi)] at h2;rw[getElem?_replicate] at h2
    split at h2<;>cases h2
  have ha:vs[i]? =some v:=by
   unfold start at h2;rw[getElem?_append_left (by simpa using hi),io] at h2;cases e:vs[i]? with
   |none=>rw[e] at h2;cases h2
   |some a=>rw[e] at h2;cases h2;rfl
  obtain ⟨u,hu,rv⟩:=r.get ha;have hp:ps[i]? =some y:=by
   rw[<-S.pre,List.getElem?_take_of_lt nofun];exact h1
  have ndP:ps.Nodup:=by rw[<-S.pre];exact S.nd.sublist (take_sublist _ _)
  refine ⟨u,rv,?_⟩;rcases S.par y (db hp) with k|k
  ·exact .inl ⟨k,lW ndP hp hu k⟩
  ·obtain ⟨c,e⟩:=qE (n:=s.heap.objs.size+1) k;refine .inr ⟨.inl k,c,e,?_⟩;have q:=x.cell y c e;rw[lQ ndP hp hu (by show scope.names.lookup y≠_;rw[k];decide)] at q;exact q
 ·exact e0.hok.fresh (Nat.le_of_lt (x.above y c (PySem.mem_of_lookup h)))
 ·unfold start;show _=N.length;rw[cr,ci,length_replicate]
  omega
def Jv {f:Addr}{name qual:Str}{params:Arguments}{dV kV doc pm cdv ct oc:Value}{an od:Option Addr}
  {osl:Array (Option Value)}{N:List Str}{sp:Sp}(lk:K.lookup f=some ⟨oc,od,.func (W.fnOf name qual params body scope dV kV doc pm an cdv ct),osl⟩) (hcd:W.codeIn K cdv qual=true) (S:jM N ps scope)
  (len:∀ vs H Q E,sp vs H Q E->vs.length=ps.length)
  (hbody:∀ (A:Around) (outer:List Env) (s:Shared) (H:Hp) (vs:List V) (Q:VK) (E:XK),bP k (A.deeper (envOfC qual scope s.heap.objs.size f cdv))->sp vs H Q E->
   ∃ t,Cg (wg CX P w K mg base N qual scope f cdv A outer s H E) body t/\t { nx:=λ_ H'=>Q .non H',rt:=Q } (start N vs) H):
  c9 P w K mg base CX (k+1) f (W.fnOf name qual params body scope dV kV doc pm an cdv ct) ps sp:=by
 refine ⟨len,λA outer s H args us vs Q E hr e0 hb r hsp=>?_⟩;have hl:=len _ _ _ _ hsp;have KX:K.In s.heap:=e0.mod.kin.keeps λb o e=>(e0.bs b o e).1
 have lim:s.heap.NoLimit:=e0.mod.nolimit.keeps λb o e=>(e0.bs b o e).1
 have hkind:∀ y ∈ ps.zip us,scope.names.lookup y.1=some .local\/(scope.names.lookup y.1=some .cell/\((cellsFrom (s.heap.objs.size+1) scope.names []).lookup y.1).isSome=true):=λ⟨n,v⟩ hy=>by
  rcases S.par n (of_mem_zip hy).1 with q|q
  ·exact .inl q
  ·exact .inr ⟨q,W.cellsFrom_some _ _ _ (.inl q)⟩
 refine codeAny_call_function hr.depth (KX _ _ lk) rfl S.co S.gen rfl (W.codeRec_of KX hcd) (hb _ _ _ _ ?_);refine wpAny_newFunctionEnv_cells S.kind hkind λenv he s1 x=>?_
 subst he;refine ⟨lim.keeps x.toInCall.keep,codeAny_func ?_⟩;obtain ⟨t,ht,hq⟩:=hbody A outer s H vs Q E (hr.deeper _) hsp;have I:Inv (wg CX P w K mg base N qual scope f cdv A outer s H E) [] (start N vs) H s1:=xa S hr.hd e0 hl r x;refine wpAny_mono (ht [] s1 (start N vs) H _ I hq) (λfl s' hs=>?_) λe s' hs=>hs
 have fin:∀ {σ':St}{H':Hp}{v:V}{u:Value},Inv (wg CX P w K mg base N qual scope f cdv A outer s H E) [] σ' H' s'->RelV v u->Q v H'->CE outer P w H s Q u s':=
  λ{σ' H' v u} J rv q=>⟨v,H',J.os,J.bare,J.base,J.hok,rv,q⟩
 cases fl with
 |ret u=>
  obtain ⟨v,σ',H',J,rv,q⟩:=hs;exact fin J rv q
 |next=>
  obtain ⟨σ',H',J,q⟩:=hs;exact fin (v:=V.non) (u:=Value.none) J rfl q
 |brk=>
  obtain ⟨_,_,_,q⟩:=hs;exact False.elim q
 |cont=>
  obtain ⟨_,_,_,q⟩:=hs;exact False.elim q
section
variable {X:Cx}{x:Str}{p pos:Pos}{e:Expr}{es:List Expr}{t:TA}{id T:String}{r:List V->Hp->VK->Prop}
abbrev Mo (r:List V->Hp->VK->Prop)(t:TA):TE:=λU H Q=>t U H λvs H1=>r vs H1 Q
def kR (hc:cx X (.builtin id) r)(hg:Gl X x)(hm:X.mg x=none)(hv:bootBuiltins x=some (.builtin id))(ha:PA X (e::es) t)(hn:x≠"__name__":=by decide) (hdb:(x ==("__debug__":Str))=false:=by decide)
  (he:bm (e::es) X.env=(false,eval e X.env)::bm es X.env:=by rfl) (hpl:(backTo pos (bm es X.env)).any (·.1)=false:=by rfl):PE X (.Call (.Name x p) (e::es) [] pos) (Mo r t):=by
 intro Y s U H Q I h;refine bv (bN I hg hm hv ?_ hn hdb);exact PyProof.Rows.callWith_builtin1 (ax (ha pos Y s U H _ I h) λus s1 ⟨vs,H1,I1,r1,q1⟩=>hc Y s1 U H1 vs us Q I1 r1 q1) he hpl
def xb (hc:cx X (.type T) r)(hg:Gl X x)(hm:X.mg x=none)(hv:bootBuiltins x=some (.type T))(ha:PA X (e::es) t)(hn:x≠"__name__":=by decide) (hdb:(x ==("__debug__":Str))=false:=by decide)
  (he:bm (e::es) X.env=(false,eval e X.env)::bm es X.env:=by rfl) (hpl:(backTo pos (bm es X.env)).any (·.1)=false:=by rfl):PE X (.Call (.Name x p) (e::es) [] pos) (Mo r t):=by
 intro Y s U H Q I h;refine bv (bN I hg hm hv ?_ hn hdb);exact PyProof.Rows.callWith_type1 (ax (ha pos Y s U H _ I h) λus s1 ⟨vs,H1,I1,r1,q1⟩=>hc Y s1 U H1 vs us Q I1 r1 q1) he hpl
end
end L2
namespace HT
open PySem PyProof.Rows
section
open PySem.SeqAt
open PySem.AutoSeq1 (wpAny_loadPart')
open PySem.MeetsSeq PySem.MeetsSeq2 PySem.MeetsSeq3
end
section
variable {prog:Program}{w:World}{A:Around}{E:M6}{s:Shared}
abbrev qR (n d:Nat):Option Int->Nat
 |none=>d
 |some v=>if v<0 then (v+(n:Int)).toNat else min v.toNat n
end
end HT
namespace L2
open PySem PySem.Spec PyProof.Rows
@[reducible]def TO:=St->Hp->(Option Int->Hp->Prop)->Prop
abbrev PO (X:Cx)(e:Option Expr)(t:TO):Prop:=
 ∀ (Y:M7) (s:Shared) (U:St) (H:Hp) (Q:Option Int->Hp->Prop),Inv X Y U H s->t U H Q->
  wpAny (model X.prog X.w) X.A (evalPart e X.env) (λu s'=>∃ o H',Inv X Y U H' s'/\IsPart u o/\Q o H') X.xe s
abbrev BK:TO:=λ_ H Q=>Q none H
abbrev Je (t:TE):TO:=λU H Q=>t U H λx H1=>∃ i,x=.int i/\Q (some i) H1
section
variable {X:Cx}{e:Expr}{te:TE}{lo hi:Option Expr}{tl th:TO}{pos p2:Pos}
def Bd:PO X none BK:=by
 intro Y s U H Q I h;rw[evalPart_none];exact am ⟨none,H,I,.none,h⟩
def Dn (h:PE X e te):PO X (some e) (Je te):=by
 intro Y s U H Q I hw;rw[evalPart_some];refine ax (h Y s U H _ I hw) λu s1 ⟨x,H1,I1,r1,q1⟩=>?_
 obtain ⟨i,rfl,q⟩:=q1;obtain ⟨t,rfl⟩:=r1;exact ⟨some i,H1,I1,.int i t,q⟩
abbrev KP (X:Cx)(r:V->Option Int->Option Int->Hp->VK->Prop):Prop:=
 ∀ (Y:M7) (s:Shared) (U:St) (H:Hp) (x:V) (v vl vu:Value) (lo hi:Option Int) (sl:Addr) (Q:VK),Inv X Y U H s->RelV x v->s.heap.IsSliceOf sl vl vu .none->IsPart vl lo->IsPart vu hi->r x lo hi H Q->
  ∃ T id,typeLookup (.type T) "__getitem__"=pure (some (.builtin id))/\s.TypeIs v T/\wpAny (model X.prog X.w) X.A (getItem v (.ref sl)) (EP X Y U Q) X.xe s
abbrev MZ (r:V->Option Int->Option Int->Hp->VK->Prop)(te:TE)(tl th:TO):TE:=λU H Q=>te U H λx H1=>tl U H1 λl H2=>th U H2 λu H3=>r x l u H3 Q
def zU {r:V->Option Int->Option Int->Hp->VK->Prop}(hr:KP X r)(he:PE X e te)(hl:PO X lo tl)(hu:PO X hi th):PE X (.Subscript e (.Slice lo hi none p2) pos) (MZ r te tl th):=by
 intro Y s U H Q I h;refine Subscript_ (ax (he Y s U H _ I h) λv s1 ⟨x,H1,I1,r1,q1⟩=>?_);refine wpAny_Slice (ax (hl Y s1 U H1 _ I1 q1) λvl s2 ⟨l,H2,I2,pl,q2⟩=>ax (hu Y s2 U H2 _ I2 q2) λvu s3 ⟨u,H3,I3,pu,q3⟩=>?_);rw[evalPart_none];refine am ?_;have I4:Inv X Y U H3 { s3 with heap:=s3.heap.push { cls:=.type "slice",data:=.fields #[vl,vu,.none] } }:=I3.kept (t':=s3.toks) λb ob q=>tz _ q
 obtain ⟨T,id,hT,ht,hg⟩:=hr Y { s3 with heap:=s3.heap.push { cls:=.type "slice",data:=.fields #[vl,vu,.none] } } U H3 x v vl vu l u s3.heap.objs.size Q I4 r1 (Heap.IsSliceOf.new ..) pl pu q3;show wpAny (model X.prog X.w) X.A (subscriptTail e (.Slice lo hi none p2) v (.ref s3.heap.objs.size)) (EP X Y U Q) X.xe { s3 with heap:=s3.heap.push { cls:=.type "slice",data:=.fields #[vl,vu,.none] } };exact tail_any (ops:=[.ref s3.heap.objs.size,v]) ht hT hg (by with_unfolding_all rfl)
abbrev gj (xs:List V)(lo hi:Option Int):List V:=(xs.drop (HT.qR xs.length 0 lo)).take (HT.qR xs.length xs.length hi-HT.qR xs.length 0 lo)
def qH (xs:List V)(lo hi:Option Int):(gj xs lo hi).length<=xs.length:=by
 unfold gj;rw[dl,jp]
 omega
end
abbrev vZ (n:Nat)(i:Int):Option Nat:=if 0<=i then (if i<n then some i.toNat else none) else if -(n:Int)<=i then some (i+n).toNat else none
variable {α:Type}
abbrev j7 (xs:List α)(i:Int):Option α:=(vZ xs.length i).bind λj=>xs[j]?
variable {n:Nat}
def uO {i:Int}{j:Nat}(h:vZ n i=some j):seqIndex? i n=some j/\j<n/\ -(n:Int)<=i/\i<n:=by
 unfold vZ at h
 by_cases h0:0<=i
 ·rw[if_pos h0] at h
  by_cases h1:i<n
  ·rw[if_pos h1] at h;have e:i.toNat=j:=Option.some.inj h;exact ⟨by rw[seqIndex_of h0 h1,e],by omega,by omega,h1⟩
  ·rw[if_neg h1] at h;cases h
 ·rw[if_neg h0] at h
  by_cases h1: -(n:Int)<=i
  ·rw[if_pos h1] at h;have e:(i+n).toNat=j:=Option.some.inj h;exact ⟨by rw[seqIndex_neg nofun h1,e],by omega,h1,by omega⟩
  ·rw[if_neg h1] at h;cases h
def aF {xs:List α}{i:Int}{v:α}(h:j7 xs i=some v):∃ j,seqIndex? i xs.length=some j/\xs[j]? =some v/\j<xs.length/\ -(xs.length:Int)<=i/\i<xs.length:=by
 unfold j7 at h;cases e:vZ xs.length i with
 |none=>rw[e] at h;cases h
 |some j=>
  rw[e] at h;obtain ⟨h1,h2,h3,h4⟩:=uO e;exact ⟨j,h1,h,h2,h3,h4⟩
def dv {xs:List α}{j:Nat}{v:α}(h:xs[j]? =some v):j7 xs (j:Int)=some v:=by
 have hj:j<xs.length:=(sK.mp h).1;have e:vZ xs.length (j:Int)=some j:=by
  unfold vZ;rw[if_pos nofun,if_pos nofun];simp
 unfold j7;rw[e];exact h
abbrev u7 (b:Expr):Prop:=∀ o i,subscripted b false o i=operate [o,i] (getItem o i)
abbrev Ib (X:Cx)(r:R2):Prop:=
 ∀ (value slice:Expr) (Y:M7) (s:Shared) (U:St) (H:Hp) (x y:V) (v u:Value) (Q:VK),Inv X Y U H s->RelV x v->RelV y u->r x y H Q->
  subscripted slice false v u=operate [v,u] (getItem v u)->wpAny (model X.prog X.w) X.A (subscriptTail value slice v u) (EP X Y U Q) X.xe s
abbrev Kq (X:Cx)(id:String)(r:V->List V->Hp->VK->Prop):Prop:=
 ∀ (Y:M7) (s:Shared) (U:St) (H:Hp) (x:V) (xs:List V) (v:Value) (us:List Value) (Q:VK),Inv X Y U H s->RelV x v->Vals xs us->r x xs H Q->
  wpAny (model X.prog X.w) X.A (call (.builtin id) (v::us)) (EP X Y U Q) X.xe s
variable {Y:M7}{U:St}{H:Hp}{s:Shared}{y:V}{u:Value}
section
variable {X:Cx}{a b:Expr}{ta tb:TE}{pos:Pos}
def HX {r:R2}(hr:Ib X r)(ha:PE X a ta)(hb:PE X b tb)(hs:u7 b):PE X (.Subscript a b pos) (Kw r ta tb):=by
 intro Y s U H Q I h;exact Subscript_ (Hi ha hb I h λv u s2 x y H2 I2 rx ry q=>hr a b Y s2 U H2 x y v u Q I2 rx ry q (hs _ _))
abbrev Ma (K:W.Frag):R2:=λx y H Q=>∃ p xs i v,x=.ref p/\y=.int i/\bc K H p xs/\j7 xs i=some v/\Q v H
abbrev KU (K:W.Frag):R2:=λx y H Q=>∃ p xs i v,x=.ref p/\y=.int i/\aS K H p xs/\j7 xs i=some v/\Q v H
def CC:Ib X (Ma X.K):=by
 intro value slice Y s U H x y v u Q I rx ry h hs;obtain ⟨p,xs,i,z,rfl,rfl,hq,he,q⟩:=h;cases rx;obtain ⟨t,rfl⟩:=ry;obtain ⟨its,r,pl,hz⟩:=I.list hq;obtain ⟨j,h1,h2,h3,h4,h5⟩:=aF he;obtain ⟨w,ew,rw'⟩:=r.get h2;have hl:=r.length;have hn:=gb;have fin:EP X Y U Q w s:=⟨z,H,I,rw',q⟩
 by_cases h0:0<=i
 ·have hj:i.toNat=j:=by
   rw[seqIndex_of h0 h5] at h1;exact Option.some.inj h1
  exact item_listR pl.isList h0 nofun (by rw[hj];simpa using ew) fin hs
 ·have hj:(i+(its.toArray.size:Int)).toNat=j:=by
   rw[seqIndex_neg nofun h4] at h1;rw[ii,<-hl];exact Option.some.inj h1
  exact subscriptTail_builtinR (x:=w) pl.isList.typeIs slot_list_getitem.lookup
   (wpAny_getItem_list_neg (Q:=λr s'=>r=w/\EP X Y U Q r s') pl.isList nofun (by rw[ii]<;>omega) nofun (by rw[hj];simpa using ew) ⟨rfl,fin⟩) hs
def F6:Ib X (KU X.K):=by
 intro value slice Y s U H x y v u Q I rx ry h hs;obtain ⟨p,xs,i,z,rfl,rfl,hq,he,q⟩:=h;cases rx;obtain ⟨t,rfl⟩:=ry;obtain ⟨its,r,pl,hz⟩:=I.tuple hq;obtain ⟨j,h1,h2,h3,h4,h5⟩:=aF he;obtain ⟨w,ew,rw'⟩:=r.get h2;have hl:=r.length;have hn:=gb;have fin:EP X Y U Q w s:=⟨z,H,I,rw',q⟩;exact subscriptTail_builtinR (x:=w) pl.typeIs slot_tuple_getitem.lookup
  (getItem_tuple (j:=j) (Q:=λr s'=>r=w/\EP X Y U Q r s') pl nofun nofun (by rw[ii,<-hl];exact h1) (by simpa using ew) ⟨rfl,fin⟩) hs
def tM (its:List Value)(n j:Nat)(u:Value):Obj.mapSeq (·.setIfInBounds j u) { cls:=.type "list",data:=.seq its.toArray n }={ cls:=.type "list",data:=.seq (its.set j u).toArray n }:=by
 simp[Obj.mapSeq]
def Inv.lst {Y:M7}{U:St}{H:Hp}{s:Shared}{p:Addr}{xs:List V}(I:Inv X Y U H s)(h:H p=some (.lst xs)):
  ∃ (its:List Value) (n:Nat),Vals xs its/\s.heap.get? p=some { cls:=.type "list",data:=.seq its.toArray n }/\xs.length<=bn:=by
 obtain ⟨z,its,n,r,e⟩:=I.hok p _ h;exact ⟨its,n,r,e,z⟩
def Inv.Hc {p:Addr}{xs ys:List V}{its its':List Value}{n':Nat}{f:Obj->Obj}(I:Inv X Y U H s)(h:H p=some (.lst xs))
  (ho:s.heap.get? p=some { cls:=.type "list",data:=.seq its.toArray n }) (hf:f { cls:=.type "list",data:=.seq its.toArray n }={ cls:=.type "list",data:=.seq its'.toArray n' }) (r:Vals ys its') (hz:ys.length<=bn) (t:Nat):
  Inv X Y U (upd H p (.lst ys)) { s with heap:=s.heap.update p f,toks:=t }:=by
 have e:(s.heap.update p f).get? p=some { cls:=.type "list",data:=.seq its'.toArray n' }:=by
  rw[Heap.get?_update_self f ho (by rw[hf]<;>rfl),hf]
 refine I.write (x:=p) (e:=p) (by rw[h];trivial) (.inl rfl) (λb u hb q=>(Heap.get?_update_other _ _ (Ne.symm hb)).trans q) ⟨_,e⟩ ?_;exact ⟨hz,its',n',r,e⟩
abbrev JT:V->V->V->Hp->(Hp->Prop)->Prop:=λo i v H Q=>∃ p xs k j,o=.ref p/\i=.int k/\H p=some (.lst xs)/\vZ xs.length k=some j/\Q (upd H p (.lst (xs.set j v)))
def set_list:B1 X JT:=by
 intro Y s U H o i v ov iv u Q I ro ri rv h;obtain ⟨p,xs,k,j,rfl,rfl,hp,hj,q⟩:=h;cases ro;obtain ⟨t,rfl⟩:=ri;obtain ⟨its,n,r,ho,hz⟩:=I.lst hp;obtain ⟨h1,h2,h3,h4⟩:=uO hj;have hl:=r.length;have hn:=gb;have I':Inv X Y U (upd H p (.lst (xs.set j v))) { s with heap:=s.heap.update p (Obj.mapSeq (·.setIfInBounds j u)) }:=
  I.Hc hp ho (tM its n j u) (r.set rv j) (by rw[length_set];exact hz) s.toks
 by_cases h0:0<=k
 ·have hk:k.toNat=j:=by
   rw[seqIndex_of h0 h4] at h1;exact Option.some.inj h1
  exact W.ki_setAt ho h0 nofun (by rw[ii,<-hl];exact h4) (by rw[hk];exact ⟨_,I',q⟩)
 ·have hk:(k+(its.toArray.size:Int)).toNat=j:=by
   rw[seqIndex_neg nofun h3] at h1;rw[ii,<-hl];exact Option.some.inj h1
  exact W.ki_setBack ho nofun (by rw[ii,<-hl];exact h3) nofun (by rw[hk];exact ⟨_,I',q⟩)
def mR (lo hi:Option Int)(n:Nat):(sliceBounds lo hi none n).1=((HT.qR n 0 lo:Nat):Int)/\(sliceBounds lo hi none n).2.1=((HT.qR n n hi:Nat):Int)/\(sliceBounds lo hi none n).2.2=1:=by
 refine ⟨?_,?_,rfl⟩
 ·cases lo with
  |none=>simp[sliceBounds,HT.qR]
  |some i=>
   simp only[sliceBounds,HT.qR,Option.getD_none,show (1:Int)>0 by decide,if_true]
   by_cases h:i<0
   ·simp only[h,if_true]<;>omega
   ·simp only[h,if_false]<;>omega
 ·cases hi with
  |none=>simp[sliceBounds,HT.qR]
  |some i=>
   simp only[sliceBounds,HT.qR,Option.getD_none,show (1:Int)>0 by decide,if_true]
   by_cases h:i<0
   ·simp only[h,if_true]<;>omega
   ·simp only[h,if_false]<;>omega
def lI (its:List Value)(lo hi:Option Int):slicePick its.toArray lo hi none=((its.drop (HT.qR its.length 0 lo)).take (HT.qR its.length its.length hi-HT.qR its.length 0 lo)).toArray:=by
 obtain ⟨h1,h2,h3⟩:=mR lo hi its.toArray.size;unfold slicePick;rw[h1,h2,h3];simp only[sliceRange_one,pick_run,ii]<;>rfl
abbrev LX (K:W.Frag):V->Option Int->Option Int->Hp->VK->Prop:=λx lo hi H Q=>∃ a xs,x=.ref a/\bc K H a xs/\∀ p,H p=none->Q (.ref p) (upd H p (.lst (gj xs lo hi)))
def BW:KP X (LX X.K):=by
 intro Y s U H x v vl vu lo hi sl Q I rx hs pl pu h;obtain ⟨a,xs,rfl,hx,q⟩:=h;cases rx;obtain ⟨its,r,ht,hz⟩:=I.list hx;have hlen:=r.length;refine ⟨"list",_,slot_list_getitem.lookup,ht.isList.typeIs,?_⟩;refine wpAny_getItem_list_slice ht.isList hs pl pu .none (by simp) ?_ (by rw[ii]<;>omega);rw[lI,<-hlen];refine ⟨.ref s.heap.objs.size,_,I.laid (t':=s.toks) (o:=.lst (gj xs lo hi)) (λb ob q=>tz _ q) (pi _) ?_,rfl,q _ (I.hok.fresh (pi _))⟩;exact ⟨Nat.le_trans (qH xs lo hi) hz,_,0,(r.drop (HT.qR xs.length 0 lo)).take (HT.qR xs.length xs.length hi-HT.qR xs.length 0 lo),ul _ rfl⟩
abbrev aU:V->Bool
 | .non=>true
 | .bl _=>true
 | .int _=>true
 | .str _=>true
 |_=>false
abbrev kQ:V->V->Bool
 | .non,.non=>true
 | .bl a,.bl b=>a ==b
 | .bl a,.int b=>(if a then 1 else 0) ==b
 | .int a,.bl b=>a ==(if b then 1 else 0)
 | .int a,.int b=>a ==b
 | .str a,.str b=>a ==b
 |_,_=>false
def zN {A:Around}{x:V}{v:Value}(ry:RelV y u)(rx:RelV x v)(fy:aU y=true)(fx:aU x=true):SeqAt.EqAt A s u v (kQ y x):=by
 cases y with
 |non=>
  cases ry;cases x with
  |non=>cases rx;exact SeqAt.EqAt.same _
  |bl b=>cases rx;exact SeqAt.EqAt.none_bool b
  |int b=>obtain ⟨t,rfl⟩:=rx;exact SeqAt.EqAt.none_int b t
  |str b=>obtain ⟨t,rfl⟩:=rx;exact SeqAt.EqAt.none_str b t
  |_=>exact absurd (show false=true from fx) Bool.false_ne_true
 |bl a=>
  cases ry;cases x with
  |non=>cases rx;exact SeqAt.EqAt.bool_none a
  |bl b=>cases rx;exact SeqAt.EqAt.bool_bool a b
  |int b=>obtain ⟨t,rfl⟩:=rx;exact SeqAt.EqAt.bool_int a b t
  |str b=>obtain ⟨t,rfl⟩:=rx;exact SeqAt.EqAt.bool_str a b t
  |_=>exact absurd (show false=true from fx) Bool.false_ne_true
 |int a=>
  obtain ⟨t',rfl⟩:=ry;cases x with
  |non=>cases rx;exact SeqAt.EqAt.int_none a t'
  |bl b=>cases rx;exact SeqAt.EqAt.int_bool a t' b
  |int b=>obtain ⟨t,rfl⟩:=rx;exact SeqAt.EqAt.int_int a t' b t
  |str b=>obtain ⟨t,rfl⟩:=rx;exact SeqAt.EqAt.int_str a t' b t
  |_=>exact absurd (show false=true from fx) Bool.false_ne_true
 |str a=>
  obtain ⟨t',rfl⟩:=ry;cases x with
  |non=>cases rx;exact SeqAt.EqAt.str_none a t'
  |bl b=>cases rx;exact SeqAt.EqAt.str_bool a t' b
  |int b=>obtain ⟨t,rfl⟩:=rx;exact SeqAt.EqAt.str_int a t' b t
  |str b=>obtain ⟨t,rfl⟩:=rx;exact SeqAt.EqAt.str_str a t' b t
  |_=>exact absurd (show false=true from fx) Bool.false_ne_true
 |_=>exact absurd (show false=true from fy) Bool.false_ne_true
abbrev CW (x:V)(u:Value):Bool:=match u with
 | .none=>kQ .non x
 | .bool b=>kQ (.bl b) x
 | .int i _=>kQ (.int i) x
 | .str z _=>kQ (.str z) x
 |_=>false
def Ao {x:V}(r:RelV y u)(f:aU y=true):CW x u=kQ y x:=by
 cases y with
 |non=>cases r;rfl
 |bl b=>cases r;rfl
 |int i=>obtain ⟨t,rfl⟩:=r;rfl
 |str z=>obtain ⟨t,rfl⟩:=r;rfl
 |_=>exact absurd (show false=true from f) Bool.false_ne_true
def nE {x:V}:∀ {xs:List V}{us:List Value},Vals xs us->xs.all aU=true->us.any (CW x)=xs.any λy=>kQ y x
 |_,_,.nil,_=>rfl
 |y::xs,u::us,.cons r t,f=>by
  rw[all_cons,mo] at f;rw[any_cons,any_cons,Ao r f.1,nE t f.2]
def kZ {A:Around}{s:Shared}{x:V}{v:Value}(rx:RelV x v)(fx:aU x=true):∀ {xs:List V}{us:List Value},Vals xs us->xs.all aU=true->∀ u ∈ us,SeqAt.EqAt A s u v (CW x u)
 |_,_,.nil,_=>λu hu=>by cases hu
 |y::xs,u::us,.cons r t,f=>λu' hu=>by
  rw[all_cons,mo] at f;rcases lw.mp hu with rfl|hu
  ·rw[Ao r f.1];exact zN r rx f.1 fx
  ·exact kZ rx fx t f.2 u' hu
abbrev HI (x:V)(xs:List V):Bool:=xs.any λy=>kQ y x
abbrev MV (K:W.Frag)(neg:Bool):R2:=λx y H Q=>∃ p xs,y=.ref p/\(bc K H p xs\/aS K H p xs)/\aU x=true/\xs.all aU=true/\Q (.bl (if neg then !HI x xs else HI x xs)) H
def vX:dr X (compareOp .In) (MV X.K false):=by
 intro Y s U H x y v u Q I rx ry h;obtain ⟨p,xs,rfl,hq,fx,fs,q⟩:=h;cases ry;rcases hq with hq|hq
 ·obtain ⟨its,r,pl,hz⟩:=I.list hq;refine SeqAt.in_listAt (CW x) pl.isList (λw hw=>kZ rx fx r fs w (by simpa using hw)) ⟨.bl _,H,I,rfl,?_⟩;rw[show its.toArray.any (CW x)=its.any (CW x) by simp,nE r fs];exact q
 ·obtain ⟨its,r,pl,hz⟩:=I.tuple hq;refine SeqAt.in_tupleAt (CW x) pl (λw hw=>kZ rx fx r fs w (by simpa using hw)) ⟨.bl _,H,I,rfl,?_⟩;rw[show its.toArray.any (CW x)=its.any (CW x) by simp,nE r fs];exact q
def nr:cx X (.type "list") (λxs H Q=>∃ p ys,xs=[.ref p]/\(bc X.K H p ys\/aS X.K H p ys)/\∀ l,H l=none->Q (.ref l) (upd H l (.lst ys))):=by
 intro Y s U H xs us Q I r h;obtain ⟨p,ys,rfl,hq,q⟩:=h;obtain ⟨u,rfl,rx⟩:=vals1 r;cases rx;have fin:∀ (its:List Value),Vals ys its->ys.length<=bn->∀ (h':Heap) (c':Nat),(∀ b o',s.heap.get? b=some o'->h'.get? b=some o')->
   h'.get? s.heap.objs.size=some { cls:=.type "list",dict:=none,data:=.seq its.toArray c',slots:=#[] }->EP X Y U Q (.ref s.heap.objs.size) { s with heap:=h' }:=λits r' hz h' c' kp e=>
  ⟨.ref s.heap.objs.size,_,I.laid (t':=s.toks) kp (pi _) (show ay X.prog X.w _ h' _ (.lst ys) from ⟨hz,its,c',r',e⟩),rfl,q _ (I.hok.fresh (pi _))⟩
 rcases hq with hq|hq
 ·obtain ⟨its,r',pl,hz⟩:=I.list hq;have hlen:=r'.length;obtain ⟨o,ho,hc,n,hd⟩:=pl.isList;exact call_list_seq p (.inl rfl) ho hc hd (λh' c' kp e=>fin its r' hz h' c' kp e) (by simp only[ii]<;>omega)
 ·obtain ⟨its,r',pl,hz⟩:=I.tuple hq;have hlen:=r'.length;obtain ⟨o,ho,hc,n,hd⟩:=pl;exact call_list_seq p (.inr rfl) ho hc hd (λh' c' kp e=>fin its r' hz h' c' kp e) (by simp only[ii]<;>omega)
def lp:cx X (.type "tuple") (λxs H Q=>∃ p ys,xs=[.ref p]/\((bc X.K H p ys/\∀ l,H l=none->Q (.ref l) (upd H l (.tup ys)))\/(aS X.K H p ys/\Q (.ref p) H))):=by
 intro Y s U H xs us Q I r h;obtain ⟨p,ys,rfl,h⟩:=h;obtain ⟨u,rfl,rx⟩:=vals1 r;cases rx;rcases h with ⟨hq,q⟩|⟨hq,q⟩
 ·obtain ⟨its,r',pl,hz⟩:=I.list hq;have hlen:=r'.length;refine call_tuple_list pl.isList (λh' kp=>?_) (by simp only[ii]<;>omega);have I1:Inv X Y U H { s with heap:=h' }:=I.kept (t':=s.toks) kp;have I2:Inv X Y U (upd H h'.objs.size (.tup ys)) { s with heap:=h'.push { cls:=.type "tuple",data:=.seq its.toArray } }:=
   I1.laid (t':=s.toks) (λb o e=>tz _ e) (pi _) (show ay X.prog X.w _ _ _ (.tup ys) from ⟨hz,its,r',IsTup.new _ _⟩)
  exact ⟨.ref h'.objs.size,_,I2,rfl,q _ (I1.hok.fresh (pi _))⟩
 ·obtain ⟨its,r',pl,hz⟩:=I.tuple hq;exact call_tuple_same pl ⟨.ref p,H,I,rfl,q⟩
abbrev LO (K:W.Frag)(T:String)(x:V)(H:Hp):Prop:=match x with
 | .str _=>T="str"
 | .int _=>T="int"
 | .ref p=>(T="list"/\∃ xs,bc K H p xs)\/(T="tuple"/\∃ o,K.lookup p=some o/\o.cls=.type "tuple"/\o.dict=none)\/
   (T="dict"/\((∃ kvs,H p=some (.dK kvs))\/∃ kvs,H p=some (.dT kvs)))\/(T="set"/\∃ S n,H p=some (.set S n))
 |_=>False
def sZ {T:String}{x:V}{v:Value}(I:Inv X Y U H s)(r:RelV x v)(ty:LO X.K T x H):
  s.TypeIs v T/\∀ a,v=.ref a->∃ ob,s.heap.get? a=some ob/\ob.dict=none:=by
 cases x with
 |str z=>
  obtain ⟨t,rfl⟩:=r;cases (show T="str" from ty);exact ⟨typeIs_str s z t,λ_ e=>nomatch e⟩
 |int i=>
  obtain ⟨t,rfl⟩:=r;cases (show T="int" from ty);exact ⟨typeIs_int s i t,λ_ e=>nomatch e⟩
 |ref p=>
  cases r;rcases ty with ⟨rfl,xs,hq⟩|⟨rfl,o,hk,hc,hd⟩|⟨rfl,hk⟩|⟨rfl,S,n,hk⟩
  ·obtain ⟨its,_,pl,_⟩:=I.list hq;refine ⟨pl.isList.typeIs,λa e=>?_⟩;cases e;obtain ⟨o,n,e,c,hd,_⟩:=pl;exact ⟨o,e,hd⟩
  ·refine ⟨⟨o,I.bO p o hk,hc⟩,λa e=>?_⟩;cases e;exact ⟨o,I.bO _ o hk,hd⟩
  ·have z:∃ o,s.heap.get? p=some o/\o.ExactDict:=by
    rcases hk with ⟨kvs,hk⟩|⟨kvs,hk⟩
    ·obtain ⟨_,_,_,_,o,_,_,e,ex,_⟩:=I.hok p _ hk;exact ⟨o,e,ex⟩
    ·obtain ⟨_,_,_,_,o,_,_,e,ex,_⟩:=I.hok p _ hk;exact ⟨o,e,ex⟩
   obtain ⟨o,e,ex⟩:=z;refine ⟨⟨o,e,ex.1⟩,λa e2=>?_⟩;cases e2;exact ⟨o,e,ex.2.1⟩
  ·obtain ⟨o,_,_,_,e,ex,_⟩:=I.hok p _ hk;refine ⟨⟨o,e,ex.1⟩,λa e2=>?_⟩;cases e2;exact ⟨o,e,ex.2.1⟩
 |_=>exact False.elim ty
abbrev Lp (K:W.Frag)(T:String)(r:V->List V->Hp->VK->Prop)(to:TE):TE:=λU H Q=>to U H λx H1=>LO K T x H1/\r x [] H1 Q
abbrev MM (K:W.Frag)(T:String)(r:V->List V->Hp->VK->Prop)(to:TE)(t:TA):TE:=λU H Q=>to U H λx H1=>LO K T x H1/\t U H1 λxs H2=>r x xs H2 Q
variable {o e:Expr}{es:List Expr}{to:TE}{t:TA}{name:Str}{apos cpos:Pos}{T id:String}{r:V->List V->Hp->VK->Prop}
def GU (pa:PlainAttrs T)(slot:Slot T name id)(hty:typeOf (.builtin id)=pure (.type "method_descriptor")) (hm:Kq X id r) (ho:PE X o to)
  (hbase:attributeBase o name X.env (eval o X.env)=eval o X.env:=by rfl) (hline:(apos.endLine ==cpos.line)=true:=by rfl):PE X (.Call (.Attribute o name apos) [] [] cpos) (Lp X.K T r to):=by
 intro Y s U H Q I h;refine wpAny_Call_method0_late hbase hline (ax (ho Y s U H _ I h) λv s1 ⟨x,H1,I1,r1,ty,q1⟩=>?_);obtain ⟨h1,h2⟩:=sZ I1 r1 ty;exact ⟨T,id,pa,slot,hty,h1,h2,Calls.callWith_builtin rfl (PySem.evalArgs_none (hm Y s1 U H1 x [] v [] Q I1 r1 .nil q1))⟩
def J3 (pa:PlainAttrs T)(slot:Slot T name id)(hty:typeOf (.builtin id)=pure (.type "method_descriptor")) (hm:Kq X id r) (ho:PE X o to) (ha:PA X (e::es) t)
  (hbase:attributeBase o name X.env (eval o X.env)=eval o X.env:=by rfl)
  (hfew:((backTo cpos (bm (e::es) X.env)).all (λx=>!x.1)&&(backToKw cpos (keywordEach [] X.env)).all (λx=>x.1.isSome)
   &&decide ((e::es).length+([]:List Keyword).length+(if ([]:List Keyword).isEmpty then 0 else 1)<30))=true:=by rfl)
  (hline:(apos.endLine ==cpos.line)=true:=by rfl) (hs:bm (e::es) X.env=(false,eval e X.env)::bm es X.env:=by rfl) (hplain:(backTo cpos (bm es X.env)).any (·.1)=false:=by rfl):
  PE X (.Call (.Attribute o name apos) (e::es) [] cpos) (MM X.K T r to t):=by
 intro Y s U H Q I h;refine wpAny_Call_method_late hbase hfew hline rfl (ax (ho Y s U H _ I h) λv s1 ⟨x,H1,I1,r1,ty,q1⟩=>?_);obtain ⟨h1,h2⟩:=sZ I1 r1 ty;refine ⟨T,id,pa,slot,hty,h1,h2,?_⟩;have hA:=ha cpos Y s1 U H1 _ I1 q1;rw[hs] at hA⊢;refine Calls.callWith_builtin (by show (false||(backTo cpos (bm es X.env)).any (·.1))=false;rw[hplain]<;>rfl) (Calls.evalArgs_plain ?_);exact ax hA λus s2 ⟨vs,H2,I2,r2,q2⟩=>hm Y s2 U H2 x vs v us Q I2 r1 r2 q2
/- xs.append(e),list.index on a module's tuple .. are Kq facts of 06m -/
end
abbrev LQ (X:Cx)(id:String)(r:V->List V->Hp->VK->Prop):Prop:=
 ∀ (Y:M7) (s:Shared) (U:St) (H:Hp) (x:V) (xs:List V) (v:Value) (us:List Value) (Q:VK),Inv X Y U H s->RelV x v->Vals xs us->r x xs H Q->
  wpAny (model X.prog X.w) X.A (call (.builtin id) (v::us)) (EP X Y U Q) X.xe s
def Vals.one:∀ {x:V}{us:List Value},Vals [x] us->∃ u,us=[u]/\RelV x u
 |_,_,.cons r .nil=>⟨_,rfl,r⟩
def Vals.zero:∀ {us:List Value},Vals [] us->us=[]
 |_,.nil=>rfl
variable {us:List Value}
def Vals.reverse {xs:List V}(h:Vals xs us):Vals xs.reverse us.reverse:=by
 induction h with
 |nil=>exact .nil
 |cons r t ih=>rw[List.reverse_cons,List.reverse_cons];exact Vals.append ih (.cons r .nil)
def Vals.rep {xs:List V}(h:Vals xs us):∀ k:Nat,Vals (sw k xs).flatten (sw k us).flatten
 |0=>.nil
 |k+1=>by
  rw[replicate_succ,replicate_succ,flatten_cons,flatten_cons];exact Vals.append h (Vals.rep h k)
def foldl_rep (its:List Value):∀ (k:Nat) (acc:List Value),
  List.foldl (λx1 x2=>x1++x2) acc.toArray (sw k its.toArray)=(acc++(sw k its).flatten).toArray
 |0,acc=>by simp
 |k+1,acc=>by
  have e:acc.toArray++its.toArray=(acc++its).toArray:=by simp
  have e2:(acc++its)++(sw k its).flatten=acc++(sw (k+1) its).flatten:=by
   rw[replicate_succ,flatten_cons,le]
  rw[<-e2,<-foldl_rep its k (acc++its),<-e,replicate_succ,foldl_cons]
section
variable {X:Cx}{Y:M7}{U:St}{H:Hp}{s:Shared}{l b:Addr}{xs ys zs:List V}
def Inv.FO {its its':List Value}{f:Array Value->Array Value}{t':Nat}(I:Inv X Y U H s)(hH:H l=some (.lst xs))
  (e:s.heap.get? l=some { cls:=.type "list",data:=.seq its.toArray n }) (hf:f its.toArray=its'.toArray) (hv:Vals ys its') (hz:ys.length<=bn):
  Inv X Y U (upd H l (.lst ys)) { s with heap:=s.heap.update l (Obj.mapSeq f),toks:=t' }:=by
 have q:=PySem.IsL.update e f;rw[hf] at q;refine I.write (x:=l) (e:=l) (by rw[hH];exact trivial) (.inl rfl) (λb' u hb hu=>(Heap.get?_update_other s.heap (Obj.mapSeq f) (Ne.symm hb)).trans hu) ⟨_,q⟩ ?_;exact ⟨hz,its',_,hv,q⟩
def Inv.JP {its:List Value}{t':Nat}(I:Inv X Y U H s)(hv:Vals ys its)(hz:ys.length<=bn):
  Inv X Y U (upd H s.heap.objs.size (.lst ys)) { s with heap:=s.heap.push { cls:=.type "list",data:=.seq its.toArray },toks:=t' }:=
 I.laid (λ_ _ q=>tz _ q) (pi _) ⟨hz,its,0,hv,ul _ rfl⟩
def Inv.fresh (I:Inv X Y U H s):H s.heap.objs.size=none:=I.hok.fresh (pi _)
def Inv.qp (I:Inv X Y U H s)(hH:H l=some (.lst xs)):xs.length<=bn/\∃ (its:List Value) (n:Nat),Vals xs its/\xs.length=its.length/\s.heap.get? l=some { cls:=.type "list",data:=.seq its.toArray n }:=by
 obtain ⟨z,its,n,r,e⟩:=I.hok l _ hH;exact ⟨z,its,n,r,r.length,e⟩
def qC (h:n<=bn):Builtin.List.listTooLong n=false:=by
 unfold Builtin.List.listTooLong;exact decide_eq_false nofun
end
section
variable {X:Cx}
abbrev B0:V->List V->Hp->VK->Prop:=λx vs H Q=>∃ l xs y,x=.ref l/\vs=[y]/\H l=some (.lst xs)/\xs.length<bn/\Q .non (upd H l (.lst (xs++[y])))
def iy:LQ X "list.append" B0:=by
 intro Y s U H x vs v us Q I rx rv h;obtain ⟨l,xs,y,rfl,rfl,hH,hz,q⟩:=h;cases rx;obtain ⟨u,rfl,ru⟩:=rv.one;obtain ⟨z,its,n,r,hl,e⟩:=I.qp hH;refine call_meets F.slot_list_append ⟨_,e,rfl⟩ F.entry_list_append (F.args_list_append_2 _ _) (PySem.list_append l its.toArray n u (by rw[ii];omega)) ⟨e,?_⟩;refine ⟨.non,_,I.FO (its':=its++[u]) hH e (by simp) (r.append (.cons ru .nil)) ?_,rfl,q⟩;rw[cr,ge]
 omega
abbrev BN:V->List V->Hp->VK->Prop:=λx vs H Q=>∃ l b xs zs,x=.ref l/\vs=[.ref b]/\H l=some (.lst xs)/\H b=some (.lst zs)/\xs.length+zs.length<=bn/\Q .non (upd H l (.lst (xs++zs)))
def w8:LQ X "list.extend" BN:=by
 intro Y s U H x vs v us Q I rx rv h;obtain ⟨l,b,xs,zs,rfl,rfl,hH,hB,hz,q⟩:=h;cases rx;obtain ⟨u,rfl,ru⟩:=rv.one;cases ru;obtain ⟨z,its,n,r,hl,e⟩:=I.qp hH;obtain ⟨z2,j8,n2,r2,hl2,e2⟩:=I.qp hB;have hsz:its.toArray.size+j8.toArray.size<=bn:=by rw[ii,ii];omega
 have hlong:¬ (!its.toArray.isEmpty&&Builtin.List.listTooLong (its.toArray.size+j8.toArray.size))=true:=by
  rw[qC hsz,Bool.and_false];exact Bool.false_ne_true
 refine call_meets F.slot_list_extend ⟨_,e,rfl⟩ F.entry_list_extend (F.args_list_extend_2 _ _)
  (AutoSeq1.list_extend_list_list_0 l its.toArray n b j8.toArray n2 hlong (by rw[ii];omega) nofun) ⟨e,e2,?_⟩
 refine ⟨.non,_,I.FO (its':=its++j8) hH e (by simp) (r.append r2) ?_,rfl,q⟩;rw[cr]
 omega
abbrev Ly:R2:=λx y H Q=>∃ l b xs zs,x=.ref l/\y=.ref b/\H l=some (.lst xs)/\H b=some (.lst zs)/\xs.length+zs.length<=bn/\∀ p,H p=none->Q (.ref p) (upd H p (.lst (xs++zs)))
def FT:dr X (binaryOp .Add) Ly:=by
 intro Y s U H x y v u Q I rx ry h;obtain ⟨l,b,xs,zs,rfl,rfl,hH,hB,hz,q⟩:=h;cases rx;cases ry;obtain ⟨z,its,n,r,hl,e⟩:=I.qp hH;obtain ⟨z2,j8,n2,r2,hl2,e2⟩:=I.qp hB;refine PySem.P.add_list e e2 ?_ (by rw[ii,ii];omega);have ea:its.toArray++j8.toArray=(its++j8).toArray:=by simp
 rw[ea];exact ⟨.ref _,_,I.JP (t':=s.toks) (r.append r2) (by rw[cr];omega),rfl,q _ I.fresh⟩
abbrev Lj:R2:=λx y H Q=>∃ l k xs,x=.ref l/\y=.int k/\H l=some (.lst xs)/\ -(2 ^ 63)<=k/\k<2 ^ 63/\xs.length*k.toNat<=bn/\
 ∀ p,H p=none->Q (.ref p) (upd H p (.lst (sw k.toNat xs).flatten))
def len_rep (xs:List α)(k:Nat):(sw k xs).flatten.length=k*xs.length:=by
 induction k with
 |zero=>simp
 |succ k ih=>rw[replicate_succ,flatten_cons,cr,ih,Nat.succ_mul,Nat.add_comm]
def Gb:dr X (binaryOp .Mult) Lj:=by
 intro Y s U H x y v u Q I rx ry h;obtain ⟨l,k,xs,rfl,rfl,hH,h1,h2,hz,q⟩:=h;cases rx;obtain ⟨t,rfl⟩:=ry;obtain ⟨z,its,n,r,hl,e⟩:=I.qp hH;have hlen:its.toArray.size*k.toNat<=bn:=by rw[ii,<-hl];exact hz
 have hcap:¬ its.toArray.size*k.toNat>(2 ^ 63-1) / 8:=by
  have:(bn:Nat)<=(2 ^ 63-1) / 8:=by decide
  omega
 have hfit:¬ (!Builtin.List.listFitsIndex k)=true:=by
  rw[fitsIndex_both h1 h2];exact Bool.false_ne_true
 have hlong:¬ Builtin.List.listTooLong (its.toArray.size*k.toNat)=true:=by
  rw[qC hlen];exact Bool.false_ne_true
 have hnew:List.foldl (λx1 x2=>x1++x2) #[] (sw (if its.toArray.isEmpty=true then 0 else k.toNat) its.toArray)=(sw k.toNat its).flatten.toArray:=by
  have f0:∀ m:Nat,List.foldl (λx1 x2=>x1++x2) #[] (sw m its.toArray)=(sw m its).flatten.toArray:=λm=>by
   have:=foldl_rep its m [];rw[nil_append] at this;exact this
  rw[f0];cases its with
  |nil=>simp
  |cons a r'=>rw[if_neg (by simp)]
 refine wpAny_binaryOp_repeat_ref (T:="list") (U:="int") (by decide) ⟨_,e,rfl⟩ (λs'=>typeIs_int s' k t) noFill_list_mul F.fills_int_mul F.slot_int_rmul repeat_list F.slot_int_index.lookup
  (call_meets F.slot_int_rmul (typeIs_int s k t) F.entry_int_rmul (F.args_int_rmul_2 _ _) (int___rmul___int_list k t l its.toArray n)
   ⟨e,rfl,⟨_,e,rfl⟩,call_meets F.slot_list_mul ⟨_,e,rfl⟩ F.entry_list_mul (F.args_list_mul_2 _ _) (AutoListH.list___mul___list_int_3 l its.toArray n k t hfit hcap hlong) ⟨e,?_⟩⟩)
 rw[hnew];exact ⟨.ref _,_,I.JP (t':=s.toks) (r.rep k.toNat) (by rw[len_rep,Nat.mul_comm];exact hz),rfl,q _ I.fresh⟩
end
section
variable {prog:Program}{w:World}{A:Around}{E:M6}{s:Shared}
set_option maxRecDepth 100000 in
end
section
variable {X:Cx}
end
variable {o:Option V}
section
variable {κ:Type} [DecidableEq κ]
abbrev di (kvs:List (κ×V))(k:κ):Option V:=(kvs.find? λkv=>decide (kv.1=k)).map (·.2)
abbrev putK (kvs:List (κ×V))(k:κ)(v:V):List (κ×V):=
 if (kvs.any λkv=>decide (kv.1=k))=true then kvs.map (λkv=>if kv.1=k then (kv.1,v) else kv) else kvs++[(k,v)]
def kq {p:κ×V}{r:List (κ×V)}{k:κ}(e:p.1=k):di (p::r) k=some p.2:=by simp[di,find?_cons,e]
def j6 {p:κ×V}{r:List (κ×V)}{k:κ}(e:¬ p.1=k):di (p::r) k=di r k:=by simp[di,find?_cons,e]
def qy (k:κ):∀ kvs:List (κ×V),(kvs.any λkv=>decide (kv.1=k))=(di kvs k).isSome
 | []=>rfl
 |p::r=>by
  rw[any_cons]
  by_cases e:p.1=k
  ·simp only[kq e,decide_eq_true e,Bool.true_or,Option.isSome_some]
  ·rw[j6 e,decide_eq_false e,Bool.false_or];exact qy k r
def d5 (kvs:List (κ×V))(k:κ)(v:V):(putK kvs k v).length<=kvs.length+1:=by
 unfold putK
 split
 ·rw[ci];omega
 ·rw[cr,length_cons,length_nil];omega
def cT.vP {u:Option Value}(r:cT o u):o.isSome=u.isSome:=by
 cases o with
 |none=>cases u with
  |none=>rfl
  |some _=>exact (show False from r).elim
 |some _=>cases u with
  |none=>exact (show False from r).elim
  |some _=>rfl
def KV.val {kvs:List (κ×V)}{vs:List (κ×Value)}(r:KV kvs vs)(k:κ):cT (di kvs k) (valueAt vs k):=by
 unfold KV at r
 induction r with
 |nil=>exact True.intro
 | @cons p q ps qs h t ih=>
  obtain ⟨h1,h2⟩:=h
  by_cases e:p.1=k
  ·have e':q.1=k:=h1.symm.trans e;have b:valueAt (q::qs) k=some q.2:=by simp[valueAt,find?_cons,e']
   rw[kq e,b];exact h2
  ·have e':¬ q.1=k:=λz=>e (h1.trans z)
   have b:valueAt (q::qs) k=valueAt qs k:=by simp[valueAt,find?_cons,e']
   rw[j6 e,b];exact ih
def KV.any {kvs:List (κ×V)}{vs:List (κ×Value)}(r:KV kvs vs)(k:κ):(kvs.any λkv=>decide (kv.1=k))=vs.any λkv=>decide (kv.1=k):=by
 unfold KV at r
 induction r with
 |nil=>rfl
 |cons h t ih=>rw[any_cons,any_cons,ih,h.1]
def KV.HH {kvs:List (κ×V)}{vs:List (κ×Value)}(r:KV kvs vs)(k:κ)(ry:RelV y u):
  KV (kvs.map λkv=>if kv.1=k then (kv.1,y) else kv) (vs.map λkv=>if kv.1=k then (kv.1,u) else kv):=by
 unfold KV at r⊢
 induction r with
 |nil=>exact .nil
 | @cons p q ps qs h t ih=>
  rw[map_cons,map_cons];refine .cons ?_ ih;obtain ⟨h1,h2⟩:=h
  by_cases e:p.1=k
  ·rw[if_pos e,if_pos (h1.symm.trans e)];exact ⟨h1,ry⟩
  ·rw[if_neg e,if_neg (λz=>e (h1.trans z))];exact ⟨h1,h2⟩
def KV.put {kvs:List (κ×V)}{vs:List (κ×Value)}(r:KV kvs vs)(k:κ)(ry:RelV y u):KV (putK kvs k y) (stored vs k u):=by
 unfold putK stored;rw[r.any k]
 by_cases e:(vs.any λkv=>decide (kv.1=k))=true
 ·rw[if_pos e,if_pos e];exact r.HH k ry
 ·rw[if_neg e,if_neg e];exact Paired.snoc r ⟨rfl,ry⟩
def KV.length {kvs:List (κ×V)}{vs:List (κ×Value)}(r:KV kvs vs):kvs.length=vs.length:=Paired.length r
end
variable {P:Program}{w:World}
def ma {k:Key}(r:RelV (kV k) u):(ar P w).is k u=true:=by
 cases k with
 |inl i=>obtain ⟨t,e⟩:=(show ∃ t,u=Value.int i t from r);subst e;exact qz P w i t
 |inr x=>obtain ⟨t,e⟩:=(show ∃ t,u=Value.str x t from r);subst e;exact qS P w x t
def mr {P:Program}{w:World}:∀ {ks:List Key}{us:List Value},Vals (ks.map kV) us->ItemsAre (ar P w) ks us
 | [],_,r=>by rw[List.map_nil] at r;cases r;exact .nil
 |k::ks,_,r=>by
  rw[map_cons] at r;cases r with
  |cons h t=>exact .cons (ma h) (mr t)
@[reducible]def KT (H:Hp):List (List Key×V)->List (List Key×Addr×Value)->Prop:=Paired λp q=>p.1=q.1/\H q.2.1=some (.tup (p.1.map kV))/\RelV p.2 q.2.2
variable {xs:List (List Key×Addr×Value)}{kvs:List (List Key×V)}
def KT.val (r:KT H kvs xs)(k:List Key):cT (di kvs k) ((atKey xs k).map (·.2)):=by
 induction r with
 |nil=>exact True.intro
 | @cons p q ps qs h t ih=>
  obtain ⟨h1,_,h2⟩:=h
  by_cases e:p.1=k
  ·have e':q.1=k:=h1.symm.trans e;have b:atKey (q::qs) k=some q.2:=by simp[atKey,find?_cons,e']
   rw[kq e,b];exact h2
  ·have e':¬ q.1=k:=λz=>e (h1.trans z)
   have b:atKey (q::qs) k=atKey qs k:=by simp[atKey,find?_cons,e']
   rw[j6 e,b];exact ih
def KT.HH (r:KT H kvs xs)(k:List Key)(ry:RelV y u):
  KT H (kvs.map λkv=>if kv.1=k then (kv.1,y) else kv) (xs.map (putAt k u)):=by
 induction r with
 |nil=>exact .nil
 | @cons p q ps qs h t ih=>
  rw[map_cons,map_cons];refine .cons ?_ ih;obtain ⟨h1,h2,h3⟩:=h;unfold putAt
  by_cases e:p.1=k
  ·rw[if_pos e,if_pos (h1.symm.trans e)];exact ⟨h1,h2,ry⟩
  ·rw[if_neg e,if_neg (λz=>e (h1.trans z))];exact ⟨h1,h2,h3⟩
def KT.put (r:KT H kvs xs)(k:List Key){b:Addr}(hb:H b=some (.tup (k.map kV)))(ry:RelV y u):
  KT H (putK kvs k y) (storedH xs k b u):=by
 have e:(kvs.any λkv=>decide (kv.1=k))=(atKey xs k).isSome:=by
  rw[qy,(r.val k).vP,Option.isSome_map]
 unfold putK storedH;rw[e]
 by_cases q:(atKey xs k).isSome=true
 ·rw[if_pos q,if_pos q];exact r.HH k ry
 ·rw[if_neg q,if_neg q];exact Paired.snoc r ⟨rfl,hb,ry⟩
variable {H':Hp}
def KT.keeps (r:KT H kvs xs)(ht:∀ b ys,H b=some (.tup ys)->H' b=some (.tup ys)):KT H' kvs xs:=
 Paired.Fn r λ_ _ z=>⟨z.1,ht _ _ z.2.1,z.2.2⟩
section
variable {P:Program}{w:World}{H:Hp}{h:Heap}{a:Addr}
def DQ {u:HO}(ok:gq P w H h)(e:Rd H a u):ay P w H h a u:=e.ok ok
def kf {kvs:List (Key×V)}(ok:gq P w H h)(e:Rd H a (.dK kvs)):kvs.length<=bn/\(a ==sysModules)=false/\∃ vs,KV kvs vs/\h.DictOf (ar P w) a vs:=
 show ay P w H h a (.dK kvs) from DQ ok e
def uM {kvs:List (Key×V)}(ok:gq P w H h)(e:H a=some (.dK kvs)):kvs.length<=bn/\(a ==sysModules)=false/\∃ vs,KV kvs vs/\h.DictOf (ar P w) a vs:=kf ok (.inl e)
def rV {ks:List Key}(ok:gq P w H h)(e:H a=some (.tup (ks.map kV))):(tupleKind (ar P w)).is h ks a:=by
 obtain ⟨_,its,r,o,h1,h2,n,h3⟩:=(show ay P w H h a (.tup (ks.map kV)) from ok a _ e);exact ⟨o,its.toArray,n,h1,h2,h3,by simpa using mr r⟩
def zS (ok:gq P w H h)(e:Rd H a (.dT kvs)):kvs.length<=bn/\(a ==sysModules)=false/\
  ∃ xs,KT H kvs xs/\h.DictOfH (tupleKind (ar P w)) a xs:=by
 obtain ⟨z,y,xs,r,o,es,ep,h1,h2,h3,h4,h5⟩:=(show ay P w H h a (.dT kvs) from DQ ok e);refine ⟨z,y,xs,r,o,es,ep,h1,h2,h3,h4,λx hx=>?_,h5⟩;have all:∀ {l:List (List Key×V)}{m:List (List Key×Addr×Value)},KT H l m->∀ x ∈ m,(tupleKind (ar P w)).is h x.1 x.2.1:=by
  intro l m q
  induction q with
  |nil=>intro x hx;exact nomatch hx
  | @cons p q ps qs hq t ih=>
   intro x hx;rcases lw.mp hx with e|hx
   ·subst e;exact rV ok (by rw[<-hq.1];exact hq.2.1)
   ·exact ih x hx
 exact all r x hx
def Kk (ok:gq P w H h)(e:H a=some (.dT kvs)):kvs.length<=bn/\(a ==sysModules)=false/\
  ∃ xs,KT H kvs xs/\h.DictOfH (tupleKind (ar P w)) a xs:=zS ok (.inl e)
end
abbrev F3 (H:Hp)(a:Addr)(y:V)(r:Option V):Prop:=
 (∃ kvs k,Rd H a (.dK kvs)/\y=kV k/\r=di kvs k)\/∃ kvs k b,Rd H a (.dT kvs)/\y=.ref b/\H b=some (.tup (k.map kV))/\r=di kvs k
abbrev IQ (H:Hp)(a:Addr)(y v:V)(H':Hp):Prop:=
 (∃ kvs k,H a=some (.dK kvs)/\y=kV k/\kvs.length<bn/\H'=upd H a (.dK (putK kvs k v)))\/
 ∃ kvs k b,H a=some (.dT kvs)/\y=.ref b/\H b=some (.tup (k.map kV))/\kvs.length<bn/\H'=upd H a (.dT (putK kvs k v))
section
variable {X:Cx}{Y:M7}{U:St}{H:Hp}{s:Shared}{a:Addr}{y v:V}{u r:Value}{o:Option V}{A:Around}{E:M6}
def Inv.big (I:Inv X Y U H s):sysModules<s.heap.objs.size:=by
 have h:mainGlobals<s.heap.objs.size:=(I.mod.glob.keeps I.bk).lt;exact Nat.lt_trans (by decide) h
def w4 {Q:M6}(hu:A.units+1<cLine)(I:Inv X Y U H s)(g:F3 H a y (some v))(ry:RelV y u)(h:∀ w' s',Inv X Y U H s'->RelV v w'->Q w' s'):
  wpAny (model X.prog X.w) A (getItem (.ref a) u) Q E s:=by
 rcases g with ⟨kvs,k,e,ey,l⟩|⟨kvs,k,b,e,ey,eb,l⟩
 ·subst ey;obtain ⟨z,hd,vs,rel,dd⟩:=kf I.hok e;obtain ⟨w',hw,rw'⟩:=cT.some_of (v:=v) (o:=valueAt vs k) (by rw[l];exact rel.val k);exact wpAny_getItem_of (ma ry) dd.mapOf hw (h w' _ (I.tok _) rw')
 ·subst ey;cases (show u=Value.ref b from ry);obtain ⟨z,hd,xs,rel,dd⟩:=zS I.hok e;obtain ⟨w',hw,rw'⟩:=cT.some_of (v:=v) (o:=(atKey xs k).map (·.2)) (by rw[l];exact rel.val k);obtain ⟨p,hp,hp2⟩:=nb.mp hw;refine wpAny_getItem_heap (tupleKind_room_in1 hu) (rV I.hok eb) dd hp ?_;rw[hp2];exact h w' _ (I.tok _) rw'
def nY {h':Heap}{t':Nat}{ob:HO}(I:Inv X Y U H s)(mu:JU (H a))(hs:Heap.SameBut a s.heap h')(he:∃ q,h'.get? a=some q) (new:ay X.prog X.w (upd H a ob) h' a ob):
  Inv X Y U (upd H a ob) { s with heap:=h',toks:=t' }:=
 I.write (x:=a) (e:=a) mu (.inl rfl) (λb q hb z=>(hs.2 b hb).trans z) he new
def tS {h':Heap}{kvs:List (Key×V)}{vs:List (Key×Value)}(z:kvs.length<=bn)(hd:(a ==sysModules)=false)(rel:KV kvs vs)(dd:h'.DictOf (ar P w) a vs):
  ay P w H' h' a (.dK kvs):=⟨z,hd,vs,rel,dd⟩
def w9 {Q:M5}(hu:A.units+1<cLine)(I:Inv X Y U H s)(g:IQ H a y v H')(ry:RelV y u)(rv:RelV v r)(h:∀ s',Inv X Y U H' s'->Q () s'):
  wpAny (model X.prog X.w) A (setItem (.ref a) u r) Q E s:=by
 rcases g with ⟨kvs,k,e,ey,l,eH⟩|⟨kvs,k,b,e,ey,eb,l,eH⟩
 ·subst ey eH;obtain ⟨z,hd,vs,rel,dd⟩:=uM I.hok e;have hz:vs.length<=bn:=by rw[<-rel.length];exact z
  have hl:(putK kvs k v).length<=bn:=by have:=d5 kvs k v;omega
  refine wpAny_setItem_pairs (hsz:=hz) (ma ry) dd λh' dd' hs=>h _ ?_
  have he:∃ q,h'.get? a=some q:=let ⟨q,_,_,hq,_⟩:=dd';⟨q,hq⟩;exact nY I (by rw[e];exact True.intro) hs he (tS hl hd (rel.put k rv) dd')
 ·subst ey eH;cases (show u=Value.ref b from ry);obtain ⟨z,hd,xs,rel,dd⟩:=Kk I.hok e;have hz:xs.length<=bn:=by rw[<-Paired.length rel];exact z
  have hl:(putK kvs k v).length<=bn:=by have:=d5 kvs k v;omega
  refine wpAny_setItem_heap (hsz:=hz) (tupleKind_room_in1 hu) (rV I.hok eb) dd λh' dd' hs=>h _ ?_
  obtain ⟨q,es,ep,hq,h2,h3,h4,_,h5⟩:=dd';refine nY I (by rw[e];exact True.intro) hs ⟨q,hq⟩ ⟨hl,hd,_,(rel.put k eb rv).keeps λc ys ec=>?_,q,es,ep,hq,h2,h3,h4,h5⟩;rw[ag (Ka ec e (λz=>nomatch z))];exact ec
end
section
variable {X:Cx}{Y:M7}{U:St}{H:Hp}{s:Shared}{a:Addr}{kvs:List (Key×V)}{k:Key}{u:Value}{A:Around}{E:M6}
end
def qG {X:Cx}{a:Addr}(I:Inv X Y U H s)(g:F3 H a y o):s.TypeIs (.ref a) "dict":=by
 rcases g with ⟨kvs,k,e,_,_⟩|⟨kvs,k,b,e,_,_,_⟩
 ·obtain ⟨_,_,vs,_,dd⟩:=kf I.hok e;exact dd.typeIs
 ·obtain ⟨_,_,xs,_,dd⟩:=zS I.hok e;exact dd.typeIs
section
variable {X:Cx}{o i e value:Expr}{pos pos' tpos:Pos}{td ty tv:TE}
end
def yQ (h:Heap)(hb:sysModules<h.objs.size):ay P w H (h.push { cls:=.type "dict",data:=.dict #[] }) h.objs.size (.dK []):=
 ⟨Nat.zero_le _,beq_eq_false_iff_ne.mpr (Ne.symm (pc hb)),[],.nil,Heap.DictOf.new h⟩
section
variable {X:Cx}{pos:Pos}
end
section
variable {X:Cx}{Y:M7}{U:St}{H:Hp}{s:Shared}{a:Addr}{y d:V}{u r:Value}{o:Option V}{A:Around}{E:M6}
end
section
variable {X:Cx}{o e f:Expr}{apos cpos:Pos}{td ty tx:TE}
end
section
variable {X:Cx}{Y:M7}{U:St}{H:Hp}{s:Shared}{a:Addr}{kvs:List (Key×V)}{A:Around}{E:M6}
end
section
variable {X:Cx}{Y:M7}{U:St}{H:Hp}{s:Shared}{a:Addr}{y:V}{u:Value}{A:Around}{E:M6}
end
end L2
namespace Att
open PySem PySem.W PySem.Calls PyProof.Rows
variable {P:Params}
def ju {h:Heap}:∀ (ns:List Int) (vs:List Value),WellAll P h vs (ns.map WData.int)->IntsAre vs ns:=by
 intro ns
 induction ns with
 |nil=>
  intro vs w;rw[List.map_nil] at w;cases w;exact .nil
 |cons n ns ih=>
  intro vs w;rw[map_cons] at w;cases w with
  |cons a b=>
   cases a;exact .cons _ _ (ih _ b)
variable {l:OpenLaw}
def wj {n:Nat}(hn:l.most=some n){h:Heap}{args:List WData}{vals:List Value}
  (hpre:l.row.toRowW.claim.pre args=true) (hwl:WellAll P h vals args):
  ∃ a vs ns,vals=[Value.ref a]/\args=[WData.list (ns.map WData.int)]/\h.get? a=some { cls:=.type "list",data:=.seq vs.toArray }/\IntsAre vs ns/\ns.length<=n:=by
 have hsh:WShape.hasAll [] args [.list .int]=true:=(pre_splitW hpre).1;have hc:l.pre.holds [] { args:=args }=true:=(pre_splitW hpre).2;obtain ⟨d,r,rfl,h1,h2⟩:=hasAllW_cons hsh;obtain rfl:=hasAllW_nil h2;obtain ⟨xs,rfl,h3⟩:=hasW_list h1;obtain ⟨ns,rfl⟩:=items_int h3;have hlen:ns.length<=n:=by
  unfold OpenLaw.pre at hc;have h4:(WTm.not (.lt (.lit (.int (n:Int))) (.len (.arg 0)))).holds [] { args:=[.list (ns.map .int)] }=true:=by
   have h4:=(holds_andW hc).1;rw[hn] at h4;exact h4
  have h5:=condW_of h4 (w_not (w_lt w_lit (w_len_list (w_arg rfl))));rw[ci] at h5;refine Nat.le_of_not_lt λq=>?_
  have q':(n:Int)<((ns.length:Nat):Int):=by omega
  first
   |(rw[decide_eq_true q'] at h5;exact absurd h5 (by decide))
   |(simp at h5;omega)
 cases hwl with
 |cons w1 w2=>
  cases w2;cases w1 with
  |list ho hall=>exact ⟨_,_,ns,rfl,rfl,ho,ju ns _ hall,hlen⟩
def vT (l:OpenLaw)(args:List WData):l.row.toRowW.claim.post args (.bool true) args=true:=
 postW_of (r:=l.row.toRowW) (X:=(true ==true))
  (show WShape.has [] (.bool true) .bool=true by first|rfl|decide|simp[WShape.has,WShape.arms,WShape.armsAll])
  (show (WTm.eq .res (.lit (.bool true))).value [] { args:=args,res:=some (.bool true),after:=args }=some (.bool (true ==true)) from w_eq_bool (w_res rfl) w_lit) rfl
def qw {n:Nat}{q:Program}{loose:List Str}{XP:(Str->Option Value)->Heap->Prop}{YP:World->Heap->Prop}{d:DefRec}
  (hn:l.most=some n) (hdf:d.params.defaults=[])
  (call:∀ (w:World) (s₀ s₁:Shared) (mg mb:M8) (fa:Addr) (o:Obj) (pm cd doc:Value) (a:Addr) (vs:List Value) (ns:List Int),
   Ground q loose [] XP w s₀ mg mb s₁.heap->YP w s₁.heap->
   s₁.heap.get? fa=some o->o.data=.func (docDef d.name d.params d.body d.scope pm cd doc)->s₁.heap.CodeRec cd d.name->mg d.name=some (.ref fa)->
   s₁.heap.get? a=some { cls:=.type "list",data:=.seq vs.toArray }->IntsAre vs ns->ns.length<=n->s₁.gens=#[]->
   codeAny (model l.prog w) callerA (.call (.ref fa) ⟨[.ref a],[]⟩) (λr s'=>r=.ok (.ret (.bool true))/\OldK s₁.heap s'.heap/\s'.os=s₁.os/\AllBare s'.gens) s₁):
  WalkO q loose XP YP l.row.toRowW d [] (λf vs=>PySem.call f vs):=by
 intro w s₀ s₁ mg mb G Y fa o pm cd doc dV kV ho hd hcd hD hmg hg args vals as hpre hlay hrd hwl hlo;obtain rfl:dV=.none:=Dflts.none hD hdf;obtain rfl:kV=.none:=Dflts.noKw hD;obtain ⟨a,vs,ns,rfl,rfl,hobj,hints,hlen⟩:=wj hn hpre hwl;refine enter_call (codeAny_mono (call w s₀ s₁ mg mb fa o pm cd doc a vs ns G Y ho (fd_plain hd) hcd hmg hobj hints hlen hg) λr s' hq=>?_);obtain ⟨rfl,h2,h3,h4⟩:=hq;exact ⟨.inl ⟨.bool true,.bool true,[],rfl,λ_=>rfl,.bool true,vT l _,λ_=>⟨List.Pairwise.nil,λ_ hm=>(nomatch hm)⟩⟩,h2,h3,h4⟩
section
variable {prog:Program}{w:World}{A:Around}{E:M6}{s:Shared}{K:Frag}
end
end Att
namespace L2
open PySem PySem.Spec PyProof.Rows
def mN:∀ {vs:List Value}{ns:List Int},IntsAre vs ns->Vals (ns.map V.int) vs
 |_,_,.nil=>.nil
 |_,_,.cons n t h=>.cons ⟨t,rfl⟩ (mN h)
abbrev Gm (H:Hp):Prop:=∀ b,H b=none\/∃ o xs,H b=some (.frz o (.lst xs))
def An {P:Program}{w:World}{K:W.Frag}{mg mb:M8}{CX:uw}{k:Nat}{fa a:Addr}{fd:FuncData}{x:Str}{sp:Sp}{s₁:Shared}{vs:List Value}{ns:List Int}
  (KX:K.In s₁.heap) (hns:s₁.heap.Ns mainGlobals mg) (hb:s₁.heap.Ns builtinsNs mb) (hbb:∀ x:Str,x≠"__name__"->mb x=bootBuiltins x) (hlim:s₁.heap.NoLimit) (hg:s₁.gens=#[])
  (ha:s₁.heap.get? a=some { cls:=.type "list",data:=.seq vs.toArray }) (hi:IntsAre vs ns) (hl:ns.length<=bn) (hr:bP k callerA)
  (F:∀ base:Heap,K.In base->base.Ns mainGlobals mg->c9 P w K mg base CX k fa fd [x] sp) (hbind:∀ (s:Shared) (u:Value),BindsTo s fd ⟨[u],[]⟩ [(x,u)])
  (hsp:∀ H:Hp,Gm H->bc K H a (ns.map V.int)->sp [.ref a] H (λv _=>v=.bl true) λ_ _=>False)
  (hCX:∀ H e s',CX [] H s₁ (λ_ _=>False) e s'->False):
  codeAny (model P w) callerA (.call (.ref fa) ⟨[.ref a],[]⟩) (λr s'=>r=.ok (.ret (.bool true))/\OldK s₁.heap s'.heap/\s'.os=s₁.os/\AllBare s'.gens) s₁:=by
 have rv:=mN hi;have lenV:=hi.length;have core:∀ H:Hp,Gm H->bc K H a (ns.map V.int)->gq P w H s₁.heap->(∀ b,H b≠none->b=a)->(H a≠none->K.lookup a=none)->
   codeAny (model P w) callerA (.call (.ref fa) ⟨[.ref a],[]⟩) (λr s'=>r=.ok (.ret (.bool true))/\OldK s₁.heap s'.heap/\s'.os=s₁.os/\AllBare s'.gens) s₁:=by
  intro H hO hS hok hA hK;have base_of:∀ {b:Addr}{o:Obj},s₁.heap.get? b=some o->H b=none->(pe s₁.heap H).get? b=some o:=λe n=>Aa e n
  have noA:∀ {b:Addr}{o:Obj}{es:Array DictEntry}{ep:Nat},s₁.heap.get? b=some o->o.data=.dict es ep->H b=none:=λ{b o es ep} e d=>by
   cases q:H b with
   |none=>rfl
   |some u=>
    have e':b=a:=hA b (by rw[q];simp);subst e';rw[ha] at e;cases e;have d':Data.seq vs.toArray _=Data.dict es ep:=d;cases d'
  have nsK:∀ {b:Addr}{m:M8},s₁.heap.Ns b m->(pe s₁.heap H).Ns b m:=λ{b m} ⟨o,es,ep,e,d,r⟩=>⟨o,es,ep,base_of e (noA e d),d,r⟩
  have hKb:K.In (pe s₁.heap H):=λb o e=>base_of (KX b o e) (by
   cases q:H b with
   |none=>rfl
   |some u=>
    have e':b=a:=hA b (by rw[q];simp);subst e';rw[hK (by rw[q];simp)] at e;cases e)
  have hM:Mod K mg (pe s₁.heap H):=⟨hKb,nsK hns,⟨mb,nsK hb,hbb⟩,let ⟨mc,h1,h2⟩:=hlim;⟨mc,nsK h1,h2⟩⟩;have e0:sV P w K mg (pe s₁.heap H) callerA [] s₁ H:=⟨rfl,hM,λb o e=>Bm e,Nat.le_of_eq (vJ _ _),trivial,λb hb=>absurd (show b ∈ ([]:List Addr) from hb) (by simp),hok,.of_eq hg⟩;refine codeAny_mono ((F _ hKb (nsK hns)).run callerA [] s₁ H ⟨[.ref a],[]⟩ [.ref a] [.ref a] _ _ hr e0 (hbind s₁ (.ref a)) (.cons rfl .nil) (hsp H hO hS)) λr s' h=>?_
  cases r with
  |error e=>exact (hCX H e s' h).elim
  |ok fl=>
   cases fl with
   |next=>exact False.elim h
   |brk=>exact False.elim h
   |cont=>exact False.elim h
   |ret u=>
    obtain ⟨v,H',os,bare,un,hok',r',q⟩:=h;have q':v=.bl true:=q;subst q';obtain rfl:u=Value.bool true:=r';refine ⟨rfl,OldK.of_keep λb o e=>?_,os,bare⟩;cases q:H b with
    |none=>exact un.keep b o e q (by intro z;exact absurd (show b ∈ ([]:List Addr) from z) (by simp)) (by simp)
    |some u=>
     rcases hO b with z|⟨ob,xs,z⟩
     ·rw[q] at z;cases z
     ·have z2:=un.frzs b ob _ z;obtain ⟨e1,_⟩:=hok b _ z;obtain ⟨e2,_⟩:=hok' b _ z2;rw[e] at e1;cases e1;exact e2
 cases hk:K.lookup a with
 |some o=>
  have e:=KX a o hk;rw[ha] at e;cases e;refine core (λ_=>none) (λ_=>.inl rfl) (.inr ⟨_,vs.toArray,_,hk,rfl,rfl,rfl,by rw[ii,lenV];exact hl,by simpa using rv⟩) (λb u z=>by have z':(none:Option HO)=some u:=z;cases z') (λb z=>absurd rfl z) λz=>absurd rfl z
 |none=>
  refine core (λb=>if b=a then some (.frz { cls:=.type "list",data:=.seq vs.toArray } (.lst (ns.map V.int))) else none) (λb=>?_) (.inl (.inr ⟨{ cls:=.type "list",data:=.seq vs.toArray },if_pos rfl⟩)) (λb u z=>?_) (λb z=>?_) λ_=>hk
  ·by_cases hb:b=a
   ·exact .inr ⟨_,_,if_pos hb⟩
   ·exact .inl (if_neg hb)
  ·by_cases hb:b=a
   ·have z':=(if_pos hb).symm.trans z;cases z';subst hb;exact ⟨ha,by rw[ci];exact hl,vs,_,rv,ha⟩
   ·have z':=(if_neg hb).symm.trans z;cases z'
  ·by_cases hb:b=a
   ·exact hb
   ·exact absurd (if_neg hb) z
def DG {l:W.OpenLaw}{n k:Nat}{q:Program}{loose:List Str}{XP:(Str->Option Value)->Heap->Prop}{YP:World->Heap->Prop}{d:DefRec}{K:Params->W.Frag}{CX:World->uw}{sp:World->Sp}{x:Str}
  (hn:l.most=some n) (hn2:n<=bn) (hdf:d.params.defaults=[]) (hr:bP k callerA)
  (hY:∀ (w:World) (h:Heap),YP w h->(K w.params).In h)
  (F:∀ (w:World) (mg:M8) (fa:Addr) (h:Heap),(K w.params).In h->h.Ns mainGlobals mg->mg d.name=some (.ref fa)->
   ∃ fd:FuncData,(∀ (s:Shared) (u:Value),BindsTo s fd ⟨[u],[]⟩ [(x,u)])/\
    ∀ base:Heap,(K w.params).In base->base.Ns mainGlobals mg->c9 l.prog w (K w.params) mg base (CX w) k fa fd [x] (sp w))
  (hsp:∀ (w:World) (H:Hp) (a:Addr) (ns:List Int),ns.length<=n->Gm H->bc (K w.params) H a (ns.map V.int)->sp w [.ref a] H (λv _=>v=.bl true) λ_ _=>False)
  (hCX:∀ (w:World) (H:Hp) (s:Shared) (e:Value) (s':Shared),CX w [] H s (λ_ _=>False) e s'->False):
  W.WalkO q loose XP YP l.row.toRowW d [] (λf vs=>PySem.call f vs):=by
 refine Att.qw hn hdf λw s₀ s₁ mg mb fa o pm cd doc a vs ns G Y ho hd hcd hmg hobj hints hlen hg=>?_
 have KX:=hY w _ Y;obtain ⟨fd,hb,hF⟩:=F w mg fa _ KX G.T.g hmg;exact An KX G.T.g G.T.b G.T.builtins G.T.nolimit hg hobj hints (Nat.le_trans hlen hn2) hr hF hb (λH hO hS=>hsp w H a ns hlen hO hS) λH e s'=>hCX w H s₁ e s'
section
variable {P:Program}{w:World}{K:W.Frag}{mg:M8}{base:Heap}
end
def cD {n:Nat}(h:n<=1000):n<bn:=Nat.lt_of_le_of_lt h (by decide)
section
variable {X:Cx}
end
end L2
namespace L2
open PySem PySem.Spec PySem.W PyProof.Rows PySem.Builtin PySem.Builtin.ObjectAttr
variable {rs:List Addr}
section
variable {prog:Program}{w:World}{A:Around}{E:M6}{s:Shared}{K:W.Frag}{x C:Addr}{ox od:Obj}{name:Str}{expr:Bool}{v:Value}{Q:M6}
def pH:builtinKind "BaseException.__getattribute__"=some .slot:=by decide+kernel
def l8:splitId "BaseException.__getattribute__"=some ("BaseException","__getattribute__"):=by decide+kernel
def BL (X:K.In s.heap)(I:W.InstAt s.heap x ox C (some od))(hga:W.findIn K (.ref C) "__getattribute__"=some (some (.builtin "BaseException.__getattribute__"))) (hgn:W.findIn K (.ref C) "__getattr__"=some none)
  (hb:W.mroIn K C (.type "BaseException")=some true) (hf:W.findObj K C (some od) name=some (.value v)) (hh:W.handedIn v=true) (h:Q v { s with toks:=s.toks+1 }):
  wpAny (model prog w) A (getAttr (.ref x) name expr) Q E s:=by
 obtain ⟨hp,g,d,t,os⟩:=s;have L0:=I.type (M:=model prog w);have L1:=looks_findIn (M:=model prog w) X hga;have L2':=looks_findIn (M:=model prog w) X hgn;have L3:=looks_find (M:=model prog w) X I hf;have L4:Looks (model prog w) hp (isInstance (.ref x) (.type "BaseException")) true:=I.type.andThen (looks_mroIn X hb);unfold getAttr getAttrBy;refine ad (wpAny_mkText (bd (ad (L0.at (ad (L1.at ?_))))));have e1:(Value.builtin "BaseException.__getattribute__" ==Value.builtin "object.__getattribute__")=false:=by decide+kernel
 dsimp only;rw[e1,Bool.and_false];show wpAny _ _ (getAttrByItsOwn _ _ _ _ _ _) _ _ _;unfold getAttrByItsOwn hookBefore;refine ad (L2'.at ?_);refine ad (wpAny_attempt (bd ?_));have e2:(expr&&onTheHeap (Value.builtin "BaseException.__getattribute__"))=false:=by cases expr<;>rfl
 unfold callGetattribute;rw[e2];show wpAny _ _ (boundAndCalled _ _ _) _ _ _;unfold boundAndCalled;rw[PySem.F.attr_ValueError.ga.bind];refine ad (am (wpAny_call (codeAny_call_builtin PySem.F.attr_ValueError.ga.plain PySem.F.entry_bexc_ga ?_)));refine @check_slot (model prog w) _ _ _ "BaseException.__getattribute__" "BaseException" "__getattribute__" (.ref x) [.str name t] [] _ pH l8 L4 (PySem.F.args_bexc_ga (.ref x) (.str name t)) ?_;unfold Builtin.«object.__getattribute__»;refine ad (am (ad (am (ad (L0.at (ad (L3.at ?_)))))));refine am ?_;show wpAny _ _ (handedOut v) _ _ _;rw[handedOut_of hh];exact am h
abbrev yY:Value->Bool
 | .ref _=>true
 |_=>false
abbrev bW:List Value:=[.type "ValueError",.type "Exception",.type "BaseException",.type "object"]
abbrev dI (l:List Value):Bool:=l.dropWhile yY ==bW
def du:∀ {l:List Value},dI l=true->∃ rs:List Addr,l=rs.map Value.ref++bW
 | [],e=>by cases e
 |c::r,e=>by
  by_cases h:yY c=true
  ·have e':dI r=true:=by
    unfold dI at e⊢;rw[List.dropWhile_cons_of_pos h] at e;exact e
   obtain ⟨rs,q⟩:=du e';cases c with
   |ref a=>exact ⟨a::rs,by rw[q];rfl⟩
   |_=>cases h
  ·unfold dI at e;rw[List.dropWhile_cons_of_neg h] at e;exact ⟨[],beq_iff_eq.mp e⟩
def ke (self:Value):∀ rs:List Addr,refuseLoop self "__setattr__" (rs.map Value.ref++bW)=pure ()
 | []=>PySem.F.store_ValueError.passes self
 |a::r=>by rw[map_cons,List.cons_append,refuseLoop_ref];exact ke self r
structure cN (K:W.Frag) (C:Addr):Prop where
 mt:W.typeIn K (.ref C)=some (.type "type")
 ov:(W.clsIn K C).any (λcd=>dI cd.mro)=true
 hd:W.hasDictIn K C=true
 ga:W.findIn K (.ref C) "__getattribute__"=some (some (.builtin "BaseException.__getattribute__"))
 gn:W.findIn K (.ref C) "__getattr__"=some none
 sa:W.findIn K (.ref C) "__setattr__"=some (some (.builtin "object.__setattr__"))
def cN.mro (c:cN K C):∃ (cd:ClassData) (rs:List Addr),W.clsIn K C=some cd/\cd.mro=rs.map Value.ref++bW:=by
 obtain ⟨cd,h1,h2⟩:=W.any_some c.ov;obtain ⟨rs,h3⟩:=du h2;exact ⟨cd,rs,h1,h3⟩
def qv (h:bW.contains v=true):(rs.map Value.ref++bW).contains v=true:=by
 rw[List.contains_eq_mem,decide_eq_true_eq] at h⊢;exact im _ h
def uE:(rs.map Value.ref++bW).isEmpty=false:=by cases rs<;>rfl
def cN.sub (c:cN K C)(h:bW.contains v=true):W.mroIn K C v=some true:=by
 obtain ⟨cd,rs,h1,h2⟩:=c.mro;unfold W.mroIn;rw[h1,Option.bind_some,h2,if_neg (by rw[uE];decide),qv h]
variable {R:Result->Shared->Prop}
def pM {tk:Tok}{odo:Option Obj}(X:K.In s.heap)(I:W.InstAt s.heap x ox C odo)(c:cN K C)(ht:W.findIn K (.ref C) name=some none)
  (h:wpAny (model prog w) A.in1 (storeInOwnDict (.ref x) (.ref C) (.str name tk) name v false)
   (λfin s'=>match fin with| .done f=>R (.ok f) s'| .again c'=>c'.quiet=true/\codeAny (model prog w) A c' R s') (λe s'=>R (.error e) s') s):
  codeAny (model prog w) A (.call (.builtin "object.__setattr__") ⟨[.ref x,.str name tk,v],[]⟩) R s:=by
 have SF:=PySem.F.store_object;obtain ⟨cd,rs,hc,hm⟩:=c.mro;have sub:Looks (model prog w) s.heap (isInstance (.ref x) (.type "object")) true:=I.type.andThen (looks_mroIn X (c.sub (by decide+kernel)));refine codeAny_call_builtin SF.slot.plain SF.entry (@check_slot (model prog w) _ _ s "object.__setattr__" "object" "__setattr__" (.ref x) [.str name tk,v] [] _ SF.kind SF.split sub (SF.args (.ref x) (.str name tk) v) ?_);have hl:Looks (model prog w) s.heap (mroOf (.ref C)) cd.mro:=(looks_clsIn X hc).andThen .now;rw[osa_eq,refuse_eq];refine ad (ad (I.type.here (ad (hl.here ?_))));rw[hm,ke];refine am (ad (I.type.here (ad ((looks_findIn X ht).here (ad (am ?_))))));exact h
end
variable {Q:M6}{u:Value}
section
variable {X:Cx}{Y:M7}{U:St}{H:Hp}{s:Shared}{a C dx:Addr}{fs:List (Str×V)}{f:Str}{v:V}{A:Around}{E:M6}{fr:Bool}
def vM {b:Bool}(I:Inv X Y U H s)(e:H a=some (.exc C (some dx) fs fr))(c:cN X.K C)(n:et X.K C f)(l:fs.lookup f=some v)
  (h:∀ u s',Inv X Y U H s'->RelV v u->Q u s'):wpAny (model X.prog X.w) A (getAttr (.ref a) f b) Q E s:=by
 obtain ⟨⟨vs,ho,_⟩,z⟩:=I.hok a _ e;rcases z with ⟨z,_⟩|⟨d,ed,_,_,_,mA,hn,r,_⟩
 ·cases z
 cases ed;obtain ⟨u,hu,ru⟩:=cT.some_of (v:=v) (o:=mA f) (by rw[<-l];exact r f);obtain ⟨od,hod,hl⟩:=iD hn;refine BL (ox:={ cls:=.ref C,dict:=some dx,data:=.fields vs }) (od:=od) I.bO ⟨ho,rfl,rfl,hod⟩ c.ga c.gn (c.sub (by decide+kernel)) (W.findObj_own c.hd n rfl (by rw[hl,hu])) (lT ru) (h u _ (I.tok _) ru)
def tQ {y:V}{Q:M5}(I:Inv X Y U H s)(e:H a=some (.exc C (some dx) fs fr))(c:cN X.K C)(n:et X.K C f)(hl:fs.length<1000)(ry:RelV y u)
  (h:∀ s',Inv X Y U (upd H a (.exc C (some dx) (cM f y fs) fr)) s'->Q () s'):wpAny (model X.prog X.w) A (setAttr (.ref a) f u) Q E s:=by
 obtain ⟨⟨vs,ho,zz⟩,z⟩:=id (I.hok a _ e);rcases z with ⟨z,_⟩|⟨d,ed,hown,_,hne,mA,hn,r,wi⟩
 ·cases z
 cases ed;obtain ⟨od,hod,hlk⟩:=iD hn;have hz:(fs.map (·.1)).length<=bn:=by rw[ci,sizeLine_eq];omega
 have J:W.InstAt s.heap a { cls:=.ref C,dict:=some dx,data:=.fields vs } C (some od):=⟨ho,rfl,rfl,hod⟩;refine W.set_plain I.bO J c.sa (pM (s:={ s with toks:=s.toks+1 }) I.bO J c n ?_);obtain ⟨cd,hc,hd'⟩:=W.any_some c.hd;refine ad (am (ad (ad (wpAny_loadPart ho (ad (W.Looks.here (s:={ s with toks:=s.toks+1 }) (W.looks_clsIn I.bO hc) ?_))))));rw[hd'];refine am (a:=some dx) (ad (am (ad ?_)));refine wpAny_nsSet1 (s:={ s with toks:=s.toks+1 }) hn λh' hn2 hs2=>?_
 obtain ⟨oD,esD,epD,hoD,hdD,hcD⟩:=hn2.count (PySem.Within.cons f u wi);refine ad (wpAny_lookBehind hoD (by rw[hdD];exact pastItsLine_dict (Nat.le_trans hcD (by rw[length_cons];omega))) ?_);refine am (h _ ?_);refine I.write (x:=a) (e:=dx) (by rw[e];exact True.intro) (.inr hown) (λb q hb z=>(hs2.2 b hb).trans z) ⟨oD,hoD⟩ ?_;refine ⟨⟨vs,(hs2.2 _ (Ne.symm hne)).trans ho,zz⟩,.inr ⟨dx,rfl,by rw[ag hne];exact hown,?_,hne,_,hn2,λg=>?_,λg hg=>?_⟩⟩
 ·have:=eG f y fs;omega
 ·show cT ((cM f y fs).lookup g) (if g=f then some u else mA g);rw[d8]
  by_cases q:g=f
  ·rw[if_pos q,if_pos q];exact ry
  ·rw[if_neg q,if_neg q];exact r g
 ·by_cases q:g=f
  ·rw[q];exact (dg f y fs).1
  ·refine (dg f y fs).2 g (wi g λz=>hg ?_);show (if g=f then some u else mA g)=none;rw[if_neg q];exact z
def rP {y:V}{Q:M5}(I:Inv X Y U H s)(e:H a=some (.exc C none fs fr))(c:cN X.K C)(n:et X.K C f)(ry:RelV y u)
  (h:∀ d s',H d=none->Inv X Y U (upd (upd H d (.own a)) a (.exc C (some d) [(f,y)] fr)) s'->Q () s'):wpAny (model X.prog X.w) A (setAttr (.ref a) f u) Q E s:=by
 obtain ⟨⟨vs,ho,zz⟩,z⟩:=id (I.hok a _ e);have hfs:fs=[]:=by
  rcases z with ⟨_,z⟩|⟨d,ed,_⟩
  ·exact z
  ·cases ed
 subst hfs;have J:W.InstAt s.heap a { cls:=.ref C,dict:=none,data:=.fields vs } C none:=⟨ho,rfl,rfl,True.intro⟩;refine W.set_plain I.bO J c.sa (pM (s:={ s with toks:=s.toks+1 }) I.bO J c n ?_);obtain ⟨cd,hc,hd'⟩:=W.any_some c.hd;refine ad (am (ad (ad (wpAny_loadPart ho (ad (W.Looks.here (s:={ s with toks:=s.toks+1 }) (W.looks_clsIn I.bO hc) ?_))))));rw[hd'];have hlt:=u8 ho;have hxs:a≠s.heap.objs.size:=pc hlt;have ho1:(s.heap.push { cls:=.type "dict",data:=.dict #[] }).get? a=some { cls:=.ref C,dict:=none,data:=.fields vs }:=tz _ ho;refine ad (wpAny_alloc' ?_);refine ad (wpAny_update' ho1 ?_);refine am ?_;have hgd:((s.heap.push { cls:=.type "dict",data:=.dict #[] }).update a λo=>{ o with dict:=some s.heap.objs.size }).get? s.heap.objs.size=some { cls:=.type "dict",data:=.dict #[] }:=
  (Heap.get?_update_ne _ _ _ _ hxs.symm).trans (Heap.get?_push_at rfl rfl)
 have hga:((s.heap.push { cls:=.type "dict",data:=.dict #[] }).update a λo=>{ o with dict:=some s.heap.objs.size }).get? a=some { cls:=.ref C,dict:=some s.heap.objs.size,data:=.fields vs }:=
  Heap.get?_update_self _ ho1 rfl
 have hnd:((s.heap.push { cls:=.type "dict",data:=.dict #[] }).update a λo=>{ o with dict:=some s.heap.objs.size }).Ns s.heap.objs.size (λ_=>none):=
  ⟨_,#[],_,hgd,rfl,λe he=>absurd he (by simp),λ_=>rfl⟩
 show wpAny _ _ (storeInDict s.heap.objs.size (.str f _) f u) _ _ _;unfold storeInDict newKeyGuard;refine ad (am (ad (wpAny_nsSet1 (Heap.Ns1.of_empty hnd) λh' hn2 hs2=>?_)));obtain ⟨oD,esD,epD,hoD,hdD,hcD⟩:=hn2.count (PySem.Within.cons f u PySem.Within.nil);refine ad (wpAny_lookBehind hoD (by rw[hdD];exact pastItsLine_dict (Nat.le_trans hcD (by rw[length_cons,length_nil,sizeLine_eq];omega))) ?_);have hd0:H s.heap.objs.size=none:=I.hok.fresh (pi _);refine am (h s.heap.objs.size _ hd0 ?_);have e':upd H s.heap.objs.size (.own a) a=some (.exc C none [] fr):=by rw[ag hxs];exact e
 have I1:Inv X Y U (upd H s.heap.objs.size (.own a)) { s with heap:=s.heap.push { cls:=.type "dict",data:=.dict #[] },toks:=s.toks+1 }:=
  I.laid (a:=s.heap.objs.size) (o:=.own a) (t':=s.toks+1) (λb u q=>tz _ q) (pi _) ⟨_,ul s.heap rfl⟩
 have I2:=I1.write (x:=a) (e:=a) (o:=.exc C (some s.heap.objs.size) [] fr) (t':=s.toks+1) (h':=(s.heap.push { cls:=.type "dict",data:=.dict #[] }).update a λo=>{ o with dict:=some s.heap.objs.size })
  (by rw[e'];exact True.intro) (.inl rfl) (λb q hb z=>(Heap.get?_update_ne _ _ _ _ hb).trans z) ⟨_,hga⟩
  ⟨⟨vs,hga,zz⟩,.inr ⟨_,rfl,by rw[ag hxs.symm,av],Nat.zero_le _,hxs.symm,_,Heap.Ns1.of_empty hnd,λ_=>True.intro,λy hy=>absurd rfl hy⟩⟩
 have ga':h'.get? a=some { cls:=.ref C,dict:=some s.heap.objs.size,data:=.fields vs }:=(hs2.2 a hxs).trans hga;have I3:=I2.write (x:=a) (e:=s.heap.objs.size) (o:=.exc C (some s.heap.objs.size) [(f,y)] fr) (t':=s.toks+1+1) (h':=h') (by rw[av];exact True.intro) (.inr (by rw[ag hxs.symm,av]))
  (λb q hb z=>(hs2.2 b hb).trans z) ⟨oD,hoD⟩
  ⟨⟨vs,ga',zz⟩,.inr ⟨_,rfl,by rw[ag hxs.symm,ag hxs.symm,av],by show 1<=1000;decide,hxs.symm,_,hn2,λg=>?_,λg hg=>?_⟩⟩
 ·rw[Ck] at I3;exact I3
 ·show cT (List.lookup g [(f,y)]) (if g=f then some u else none)
  by_cases q:g=f
  ·have hb:(g ==f)=true:=beq_iff_eq.mpr q;simp only[List.lookup,hb,if_pos q];exact ry
  ·have hb:(g ==f)=false:=beq_eq_false_iff_ne.mpr q;simp only[List.lookup,hb,if_neg q];exact True.intro
 ·by_cases q:g=f
  ·rw[q];simp
  ·exact absurd (show (if g=f then some u else none)=none by rw[if_neg q]) hg
end
section
variable {X:Cx}{Y:M7}{U:St}{H:Hp}{s:Shared}{a C:Addr}{dx:Option Addr}{fs:List (Str×V)}{f:Str}{v:V}{A:Around}{E:M6}{fr:Bool}
def Inv.fields {vs':Array Value}{h':Heap}{t':Nat}(I:Inv X Y U H s)(e:H a=some (.exc C dx fs fr))(hs:vs'.size=6)(h1:fr=true->vs'[1]? =some Value.none)
  (ha:h'.get? a=some { cls:=.ref C,dict:=dx,data:=.fields vs' }) (k:∀ b u,b≠a->s.heap.get? b=some u->h'.get? b=some u):Inv X Y U H { s with heap:=h',toks:=t' }:=by
 have I2:=I.write (x:=a) (e:=a) (o:=.exc C dx fs fr) (t':=t') (h':=h') (by rw[e];exact True.intro) (.inl rfl) k ⟨_,ha⟩ ?_
 ·have:upd H a (.exc C dx fs fr)=H:=by
   funext b
   by_cases hb:b=a
   ·rw[hb,av,e]
   ·rw[ag hb]
  rw[this] at I2;exact I2
 ·obtain ⟨_,z⟩:=id (I.hok a _ e);refine ⟨⟨vs',ha,hs,h1⟩,?_⟩;rcases z with z|⟨d,ed,d1,z1,ne,mA,⟨od,es,ep,e2,c⟩,r⟩
  ·exact .inl z
  ·exact .inr ⟨d,ed,by rw[ag ne];exact d1,z1,ne,mA,⟨od,es,ep,k _ _ ne e2,c⟩,r⟩
def kh {R:Result->Shared->Prop}(I:Inv X Y U H s)(e:H a=some (.exc C dx fs fr))(c:cN X.K C)
  (h:∀ s',Inv X Y U H s'->R (.ok (.ret .none)) s'):codeAny (model X.prog X.w) A (.call (.builtin "ValueError.__init__") ⟨[.ref a,u],[]⟩) R s:=by
 have F:=PySem.F.excCall_ValueError;obtain ⟨⟨vs,ho,hsz,h1⟩,z⟩:=id (I.hok a _ e);have L4:Looks (model X.prog X.w) s.heap (isInstance (.ref a) (.type "ValueError")) true:=(show Looks (model X.prog X.w) s.heap (typeOf (.ref a)) (.ref C) from (Looks.ld ho).andThen .now).andThen (looks_mroIn I.bO (c.sub (by decide+kernel)));refine codeAny_call_builtin F.init.plain F.initEntry ?_;simp only[checkBuiltinCall,F.initKind,F.initSplit,F.initRow];refine ad (L4.here ?_);simp only[Bool.not_true,Bool.false_eq_true,if_false];have hshort:("ValueError" != "*")=true:=by decide
 have h0:∃ a0,vs[0]? =some a0:=⟨_,Array.getElem?_eq_getElem nofun⟩;obtain ⟨a0,h0⟩:=h0;obtain ⟨hp,g,d,t,os⟩:=s;unfold Bind.checkArgs;have hn:Looks (model X.prog X.w) hp (typeOf (.ref a)) (.ref C):=(Looks.ld ho).andThen .now;obtain ⟨cd,rs,hcl,_⟩:=c.mro;obtain ⟨oc,od,sl,hC⟩:∃ oc od sl,hp.get? C=some ⟨oc,od,.cls cd,sl⟩:=by
  unfold W.clsIn at hcl
  split at hcl
  ·rename_i ho';cases hcl;exact ⟨_,_,_,I.bO _ _ ho'⟩
  ·cases hcl
 repeat (first|with_reducible refine wpAny_load hC ?_|wp_step)
 rw[h0];have ho1:(hp.push { cls:=.type "tuple",data:=.seq #[u] }).get? a=some { cls:=.ref C,dict:=dx,data:=.fields vs }:=tz _ ho;have hq:=Heap.get?_update_self (Obj.mapFields (·.setIfInBounds 0 (.ref hp.objs.size))) ho1 (Obj.isFreed_of_fields (Obj.data_mapFields rfl _));have fin:R (.ok (.ret Value.none)) ⟨(hp.push { cls:=.type "tuple",data:=.seq #[u] }).update a (Obj.mapFields (·.setIfInBounds 0 (.ref hp.objs.size))),g,d,t,os⟩:=by
  refine h _ (I.fields (vs':=vs.setIfInBounds 0 (.ref hp.objs.size)) (t':=t) e (by simpa using hsz) (λz=>?_) hq λb q hb z'=>?_)
  ·rw[Array.getElem?_setIfInBounds_ne (by decide)];exact h1 z
  ·exact (Heap.get?_update_ne _ _ _ _ hb).trans (tz _ z')
 refine am (ad (wpAny_setField ho1 rfl nofun ?_));cases a0<;>first|exact am (am fin)|exact wpAny_letGo (am fin)
def sW (I:Inv X Y U H s)(e:H a=some (.exc C dx fs fr))(c:cN X.K C)
  (h:∀ s',Inv X Y U H s'->Q .none s'):wpAny (model X.prog X.w) A (call (.builtin "ValueError.__init__") [.ref a,u]) Q E s:=wpAny_call (kh I e c h)
end
abbrev bZ (K:W.Frag)(C:Addr):Bool:=match K.lookup C with
 |some ⟨_,_,.cls cd,sl⟩=>!cd.abstract&& !cd.hasDel&&(sl.toList[4]?).join ==some (.builtin "ValueError.__new__")&&dI cd.mro&&cd.mro.contains (.ref C)&&
   W.specialIn K (.ref C) "__call__" ==some (some (.builtin "type.__call__"))&&W.instIn K (.ref C) (.type "type") ==some true
 |_=>false
structure y0 (M:Model) (h:Heap) (C:Addr):Prop where
 obj:∃ oc od cd sl,h.get? C=some ⟨oc,od,.cls cd,sl⟩/\cd.abstract=false/\cd.hasDel=false/\cd.mro.isEmpty=false
 made:W.Looks M h (Bind.madeBy (.ref C)) (some "ValueError.__new__")
 base:W.Looks M h (Bind.staticBase (.ref C)) (.ref C)
 self:W.Looks M h (isSubtype (.ref C) (.ref C)) true
 top:W.Looks M h (isSubtype (.ref C) (.type "ValueError")) true
 no1:W.Looks M h (isSubtype (.ref C) (.type "AttributeError")) false
 no2:W.Looks M h (isSubtype (.ref C) (.type "NameError")) false
 call:W.Looks M h (specialOf (.ref C) "__call__") (some (.builtin "type.__call__"))
 typ:W.Looks M h (isInstance (.ref C) (.type "type")) true
def vi {n:String}(h:bW.contains (.type n)=false):(rs.map Value.ref++bW).contains (.type n)=false:=by
 induction rs with
 |nil=>exact h
 |cons a r ih=>rw[map_cons,List.cons_append,List.contains_cons,ih];rfl
def mG {K:W.Frag}{M:Model}{h:Heap}(X:K.In h){C:Addr}(e:bZ K C=true):y0 M h C:=by
 unfold bZ at e
 split at e
 ·rename_i oc od cd sl ho;simp only[mo,Bool.not_eq_true',beq_iff_eq] at e;obtain ⟨⟨⟨⟨⟨⟨e1,e2⟩,e3⟩,e4⟩,e5⟩,e7⟩,e8⟩:=e;obtain ⟨rs,em⟩:=du e4;have hc:W.clsIn K C=some cd:=by unfold W.clsIn;rw[ho]
  have hm:Looks M h (mroOf (.ref C)) cd.mro:=(looks_clsIn X hc).andThen .now;have ne:cd.mro.isEmpty=false:=by rw[em];exact uE
  obtain ⟨c,l,hl⟩:∃ c l,cd.mro=c::l:=by
   cases q:cd.mro with
   |nil=>rw[q] at ne;cases ne
   |cons c l=>exact ⟨c,l,rfl⟩
  have made:Looks M h (Bind.madeBy (.ref C)) (some "ValueError.__new__"):=by
   intro A Q E s k q;unfold Bind.madeBy;refine ad (hm A _ E s k ?_);rw[hl,forIn_cons];refine ad (ad (ad (ad (wpAny_loadPart (k _ _ (X _ _ ho)) (am ?_)))));dsimp only;rw[<-Array.getElem?_toList,e3];exact am (am (am q))
  have mro:∀ {v b},cd.mro.contains v=b->W.mroIn K C v=some b:=λ{v b} q=>by
   unfold W.mroIn;rw[hc,Option.bind_some,if_neg (by rw[ne];decide),q]
  refine ⟨⟨oc,od,cd,sl,X _ _ ho,e1,e2,ne⟩,made,?_,looks_mroIn X (mro e5),looks_mroIn X (mro (by rw[em];exact qv (by decide+kernel))),looks_mroIn X (mro (by rw[em];exact vi (by decide+kernel))),looks_mroIn X (mro (by rw[em];exact vi (by decide+kernel))),looks_specialIn X e7,looks_instIn X e8⟩;intro A Q E s k q;unfold Bind.staticBase;refine ad (hm A _ E s k ?_);rw[hl,forIn_cons];exact ad (ad (ad (made A _ E s k (am (am (am q))))))
 ·cases e
variable {rest:List Value}
section
variable {prog:Program}{w:World}{A:Around}{K:W.Frag}{C:Addr}{R:Result->Shared->Prop}{h:Heap}{g:Array GenState}{d:Drawn}{t:Nat}{os:OsState}
def D3 (Y:y0 (model prog w) h C)(hz:rest.length<=bn)
  (hq:R (.ok (.ret (.ref (h.objs.size+1)))) ⟨(h.push { cls:=.type "tuple",data:=.seq rest.toArray }).push { cls:=.ref C,data:=.fields #[.ref h.objs.size,.none,.none,.none,.bool false,.none] },g,d,t,os⟩):
  codeAny (model prog w) A (.call (.builtin "ValueError.__new__") ⟨.ref C::rest,[]⟩) R ⟨h,g,d,t,os⟩:=by
 obtain ⟨⟨oc,od,cd,sl,hC,e1,e2,e4⟩,made,base,self,top,no1,no2,call,typ⟩:=Y;have F:=PySem.F.excBase_ValueError;have here:Looks (model prog w) h (Bind.madeHere "BaseException.__new__" (.ref C)) ():=base.andThen (made.andThen (Looks.of_pure (by simp only[Option.map_some,F.canon,bne_self_eq_false,Bool.false_eq_true,if_false])));refine codeAny_call_builtin_code (Code.quiet_builtin _ F.quiet) ?_;simp only[checkBuiltinCall,F.newKind,F.newSplit,F.newRow]
 repeat (first|simp only[bne_self_eq_false,Bool.false_eq_true,if_false]|lk)
 refine codeAny_builtinAt F.entry ?_;unfold Builtin.«BaseException.__new__»;refine PySem.wpAt_bind ?_;show PySem.wpAt _ _ _ (stack >>= _) _ _ _;refine PySem.wpAt_bind (PySem.wpAt_stack λp below=>PySem.wpAt_of_wpAny ?_);have hends:=F.ends
 wp_walk
 refine PySem.wpAt_of_wpAny ?_;rw[F.owner]
 repeat (first|simp only[Bool.not_true,Bool.false_eq_true,if_false]|lk)
 rw[if_neg (show ¬ (rest.toArray.size>bn) by rw[ii];omega)];unfold newObjAsIs;refine ad (wpAny_alloc (am (ad ?_)));show wpAny _ _ (newObjAsIs _ _ _) _ _ _;unfold newObjAsIs classHasDel;refine ad (wpAny_alloc (ad (ad (wpAny_load (tz _ (tz _ hC)) (am ?_)))));rw[e2];refine am (am ?_);show R _ _;rw[Heap.size_push];exact hq
def Hn {fI:Addr}(X:K.In h)(hz:rest.length<=bn)(hm:bZ K C=true)(hi:W.findIn K (.ref C) "__init__"=some (some (.ref fI))) (hf:W.typeIn K (.ref fI)=some (.type "function"))
  (hq:codeAny (model prog w) (A.under (.builtin "type.__call__" ⟨.ref C::rest,[]⟩)) (.call (.ref fI) ⟨.ref (h.objs.size+1)::rest,[]⟩) (InitBack (h.objs.size+1) R)
   ⟨(h.push { cls:=.type "tuple",data:=.seq rest.toArray }).push { cls:=.ref C,data:=.fields #[.ref h.objs.size,.none,.none,.none,.bool false,.none] },g,d,t,os⟩):
  codeAny (model prog w) A (.call (.ref C) ⟨rest,[]⟩) R ⟨h,g,d,t,os⟩:=by
 have Y:=mG (M:=model prog w) X hm;have Y':=Y;obtain ⟨⟨oc,od,cd,sl,hC,e1,e2,e4⟩,made,base,self,top,no1,no2,call,typ⟩:=Y;refine codeAny_of_tree ?_;show wpAny _ _ (callAny (.ref C) _) _ _ _;refine nd_load hC ?_;show wpAny _ _ (callAny.viaDunder (.ref C) _) _ _ _;unfold callAny.viaDunder;refine ad (call.at ?_);dsimp only;rw[tc_bind];refine ad (am (ad (am ?_)));refine am (a:=Fin.again (.call (.builtin "type.__call__") ⟨.ref C::rest,[]⟩)) (And.intro rfl ?_);refine codeAny_call_builtin_at (Code.quiet_builtin _ (by decide+kernel)) entry_typeCall (check_slot tc_kind tc_split typ (tc_args _ _ _) ?_);unfold Builtin.«type.__call__»;have hmr:Looks (model prog w) h (mroOf (.ref C)) cd.mro:=((Looks.ld (part:=none) hC).andThen .now).andThen .now
 repeat (first|simp only[e4,Bool.false_eq_true,if_false]|with_reducible refine wpAny_call ?_|lk)
 refine D3 Y' hz ?_;have k:∀ b o,h.get? b=some o->((h.push { cls:=.type "tuple",data:=.seq rest.toArray }).push { cls:=.ref C,data:=.fields #[.ref h.objs.size,.none,.none,.none,.bool false,.none] }).get? b=some o:=λb o e=>tz _ (tz _ e)
 have hx:((h.push { cls:=.type "tuple",data:=.seq rest.toArray }).push { cls:=.ref C,data:=.fields #[.ref h.objs.size,.none,.none,.none,.bool false,.none] }).get? (h.objs.size+1)=some { cls:=.ref C,data:=.fields #[.ref h.objs.size,.none,.none,.none,.bool false,.none] }:=by heap_get
 have t1:Looks (model prog w) ((h.push { cls:=.type "tuple",data:=.seq rest.toArray }).push { cls:=.ref C,data:=.fields #[.ref h.objs.size,.none,.none,.none,.bool false,.none] }) (typeOf (.ref (h.objs.size+1))) (.ref C):=(Looks.ld hx).andThen .now;have s1:=self.keeps k;have i1:=(looks_findIn (M:=model prog w) X hi).keeps k;have b1:=(bind_fn (M:=model prog w) X (.ref (h.objs.size+1)) hf).keeps k;unfold isInstance callSpecial? specialOf
 repeat (first|with_reducible refine wpAny_call ?_|lk)
 refine codeAny_mono hq λr s' z=>?_
 rcases r with e|(v|_|_|_)<;>first|exact z|exact z.elim|skip
 obtain ⟨rfl,z⟩:=z;exact am (am z)
def BQ (X:K.In h)(hz:rest.length<=bn)(hm:bZ K C=true)(hi:W.findIn K (.ref C) "__init__"=some (some (.builtin "ValueError.__init__")))
  (hq:codeAny (model prog w) (A.under (.builtin "type.__call__" ⟨.ref C::rest,[]⟩)) (.call (.builtin "ValueError.__init__") ⟨.ref (h.objs.size+1)::rest,[]⟩) (InitBack (h.objs.size+1) R)
   ⟨(h.push { cls:=.type "tuple",data:=.seq rest.toArray }).push { cls:=.ref C,data:=.fields #[.ref h.objs.size,.none,.none,.none,.bool false,.none] },g,d,t,os⟩):
  codeAny (model prog w) A (.call (.ref C) ⟨rest,[]⟩) R ⟨h,g,d,t,os⟩:=by
 have Y:=mG (M:=model prog w) X hm;have Y':=Y;obtain ⟨⟨oc,od,cd,sl,hC,e1,e2,e4⟩,made,base,self,top,no1,no2,call,typ⟩:=Y;refine codeAny_of_tree ?_;show wpAny _ _ (callAny (.ref C) _) _ _ _;refine nd_load hC ?_;show wpAny _ _ (callAny.viaDunder (.ref C) _) _ _ _;unfold callAny.viaDunder;refine ad (call.at ?_);dsimp only;rw[tc_bind];refine ad (am (ad (am ?_)));refine am (a:=Fin.again (.call (.builtin "type.__call__") ⟨.ref C::rest,[]⟩)) (And.intro rfl ?_);refine codeAny_call_builtin_at (Code.quiet_builtin _ (by decide+kernel)) entry_typeCall (check_slot tc_kind tc_split typ (tc_args _ _ _) ?_);unfold Builtin.«type.__call__»;have hmr:Looks (model prog w) h (mroOf (.ref C)) cd.mro:=((Looks.ld (part:=none) hC).andThen .now).andThen .now
 repeat (first|simp only[e4,Bool.false_eq_true,if_false]|with_reducible refine wpAny_call ?_|lk)
 refine D3 Y' hz ?_;have k:∀ b o,h.get? b=some o->((h.push { cls:=.type "tuple",data:=.seq rest.toArray }).push { cls:=.ref C,data:=.fields #[.ref h.objs.size,.none,.none,.none,.bool false,.none] }).get? b=some o:=λb o e=>tz _ (tz _ e)
 have hx:((h.push { cls:=.type "tuple",data:=.seq rest.toArray }).push { cls:=.ref C,data:=.fields #[.ref h.objs.size,.none,.none,.none,.bool false,.none] }).get? (h.objs.size+1)=some { cls:=.ref C,data:=.fields #[.ref h.objs.size,.none,.none,.none,.bool false,.none] }:=by heap_get
 have t1:Looks (model prog w) ((h.push { cls:=.type "tuple",data:=.seq rest.toArray }).push { cls:=.ref C,data:=.fields #[.ref h.objs.size,.none,.none,.none,.bool false,.none] }) (typeOf (.ref (h.objs.size+1))) (.ref C):=(Looks.ld hx).andThen .now;have s1:=self.keeps k;have i1:=(looks_findIn (M:=model prog w) X hi).keeps k;have b1:Looks (model prog w) ((h.push { cls:=.type "tuple",data:=.seq rest.toArray }).push { cls:=.ref C,data:=.fields #[.ref h.objs.size,.none,.none,.none,.bool false,.none] }) (bindSpecial (.builtin "ValueError.__init__") (.ref (h.objs.size+1))) (.builtin "ValueError.__init__",[.ref (h.objs.size+1)]):=Looks.of_pure (PySem.F.excCall_ValueError.init.bind _);unfold isInstance callSpecial? specialOf
 repeat (first|with_reducible refine wpAny_call ?_|lk)
 refine codeAny_mono hq λr s' z=>?_
 rcases r with e|(v|_|_|_)<;>first|exact z|exact z.elim|skip
 obtain ⟨rfl,z⟩:=z;exact am (am z)
end
end L2
namespace L2
open PySem PySem.Spec PySem.W PyProof.Rows
abbrev bH (e:Addr)(h h':Heap):Prop:=∀ oe vs,h.get? e=some oe->oe.data=.fields vs->∃ vs',h'.get? e=some { oe with data:=.fields vs' }/\vs'.size=vs.size
abbrev FQ (as:List Addr)(h h':Heap):Prop:=∀ b o,b ∉ as->h.get? b=some o->h'.get? b=some o
abbrev AX (h:Heap)(e T:Addr)(fl:Value):Prop:=∃ oe vs oT ts,h.get? e=some oe/\oe.data=.fields vs/\vs[1]? =some (.ref T)/\T≠e/\h.get? T=some oT/\oT.data=.fields ts/\ts[3]? =some fl
def bH.trans {e:Addr}{h h1 h2:Heap}(a:bH e h h1)(b:bH e h1 h2):bH e h h2:=λoe vs x y=>by
 obtain ⟨vs1,x1,z1⟩:=a oe vs x y;obtain ⟨vs2,x2,z2⟩:=b _ vs1 x1 rfl;exact ⟨vs2,x2,z2.trans z1⟩
def bH.same {e:Addr}{h h':Heap}(k:h'.get? e=h.get? e):bH e h h':=λoe vs x y=>⟨vs,by rw[k,x,<-y],rfl⟩
variable {Q:M5}
section
variable {M:Model}{A:Around}{E:M6}{s:Shared}{base:Heap}{env:Env}{outer:List Env}{L e:Addr}
def mD {oe:Obj}{vs:Array Value}{head:Value}{hadNext:Bool}(hfr:A.frames=some (env::outer))(hl:s.heap.FunFrames base (env::outer))(hf:env.frame=some L)
  (he:s.heap.get? e=some oe) (hd:oe.data=.fields vs) (hsz:1<vs.size)
  (q:∀ h' T,s.heap.objs.size<=T->AX h' e T (rawInt L)->bH e s.heap h'->(∀ b o,b≠e->s.heap.get? b=some o->∃ sl,h'.get? b=some { o with slots:=sl })->FQ (e::n6 (env::outer)) s.heap h'->Q () { s with heap:=h' }):
  wpAny M A (do let a <-frameOf env;let pl <-entryPlaceOf L hadNext;let b <-EntryCells.newEntry head a .none (rawInt L) .none pl;setField (.ref e) 1 b) Q E s:=by
 have hne:e ∉ n6 (env::outer):=λhm=>by
  obtain ⟨_,o,ho,hnf⟩:=hl.mem hm;rw[he] at ho;cases ho;exact hnf vs hd
 refine ad (wpAny_frameOf_fun hfr hl hf λh1 s1=>ad (wpAny_entryPlaceOf λpl hpl=>?_));unfold EntryCells.newEntry newFields;refine ad (wpAny_newObj_type ?_ (hpl.sizeOk5 _ _ _ _ _));have e1:h1.get? e=some oe:=(s1.2.1 e hne).trans he;have e2:=tz (h:=h1) { cls:=.type "traceback",dict:=none,data:=.fields ([head,.ref L,.none,rawInt L,.none]++(if pl.isEmpty then sw 6 Value.none else pl)).toArray } e1;have hTe:h1.objs.size≠e:=Nat.ne_of_gt (u8 e1);have d3:=Obj.data_mapFields hd (·.setIfInBounds 1 (Value.ref h1.objs.size));have e3:=Heap.get?_update_self (Obj.mapFields (·.setIfInBounds 1 (Value.ref h1.objs.size))) e2 (Obj.isFreed_of_fields d3);have t3:=(Heap.get?_update_other (h1.push { cls:=.type "traceback",dict:=none,data:=.fields ([head,.ref L,.none,rawInt L,.none]++(if pl.isEmpty then sw 6 Value.none else pl)).toArray })
  (Obj.mapFields (·.setIfInBounds 1 (Value.ref h1.objs.size))) (Ne.symm hTe)).trans (ul h1 rfl)
 have keep:∀ b o,b≠e->h1.get? b=some o->((h1.push { cls:=.type "traceback",dict:=none,data:=.fields ([head,.ref L,.none,rawInt L,.none]++(if pl.isEmpty then sw 6 Value.none else pl)).toArray }).update e (Obj.mapFields (·.setIfInBounds 1 (Value.ref h1.objs.size)))).get? b=some o:=
  λb o hb hq=>(Heap.get?_update_other _ _ (Ne.symm hb)).trans (tz _ hq)
 refine wpAny_setField e2 hd hsz (q _ h1.objs.size ?_ ?_ ?_ (λb o hb ho=>?_) λb o hb ho=>?_)
 ·rw[s1.1];exact pi _
 ·refine ⟨_,_,_,_,e3,d3,by simp[hsz],hTe,t3,rfl,?_⟩
  first|(simp;done)|(rcases hpl with rfl|⟨_,_,_,_,_,_,_,rfl⟩<;>simp)
 ·intro oe' vs' x y;rw[he] at x;cases x;rw[hd] at y;cases y;refine ⟨vs.setIfInBounds 1 (.ref h1.objs.size),?_,by simp⟩;rw[e3];obtain ⟨c0,d0,dt,sl0⟩:=oe;cases hd
  rfl
 ·obtain ⟨sl,z⟩:=s1.2.2 b o ho;exact ⟨sl,keep b _ hb z⟩
 ·exact keep b o (λz=>hb (by rw[z];exact lv)) ((s1.2.1 b λz=>hb (dL _ z)).trans ho)
abbrev E8 (n₀:Nat)(ps:M7)(H:Hp)(h:Heap)(e:Addr):Prop:=(∃ oe vs,h.get? e=some oe/\oe.data=.fields vs/\vs[1]? =some Value.none)\/∃ T,n₀<=T/\H T=none/\(∀ p ∈ ps,p.1≠T)/\AX h e T .none
def Co {n₀:Nat}{ps:M7}{H:Hp}(hfr:A.frames=some (env::outer))(hl:s.heap.FunFrames base (env::outer))(hf:env.frame=some L)(sf:E8 n₀ ps H s.heap e)(h0:n₀<=s.heap.objs.size)(hps:∀ p ∈ ps,p.1<s.heap.objs.size)
  (q:∀ h' T T0,s.heap.objs.size<=T->n₀<=T0->(H T0=none\/s.heap.objs.size<=T0)->(∀ p ∈ ps,p.1≠T0)->(∀ o,s.heap.get? T0=some o->∃ ts,o.data=.fields ts)->AX h' e T (rawInt L)->bH e s.heap h'->h'.FunFrames base (env::outer)->(∀ b o,b≠e->b≠T0->s.heap.get? b=some o->∃ sl,h'.get? b=some { o with slots:=sl })->FQ (e::T0::n6 (env::outer)) s.heap h'->(∀ b o,s.heap.get? b=some o->∃ o',h'.get? b=some o')->Q () { s with heap:=h' }):
  wpAny M A (noteFrame (.ref e) env) Q E s:=by
 have fun_of:∀ {h':Heap}{as:List Addr},(∀ b ∈ as,∀ o,s.heap.get? b=some o->∃ vs,o.data=.fields vs)->(∀ b o,b ∉ as->s.heap.get? b=some o->∃ sl,h'.get? b=some { o with slots:=sl })->h'.FunFrames base (env::outer):=
  λ{h' as} ha k=>hl.of_keeps λb o ho hnf=>by
   by_cases hb:b ∈ as
   ·obtain ⟨vs,z⟩:=ha b hb o ho;exact absurd z (hnf vs)
   ·obtain ⟨sl,z⟩:=k b o hb ho;exact ⟨_,z,rfl⟩
 unfold noteFrame;simp only[hf];rcases sf with ⟨oe,vs,he,hd,h1⟩|⟨T0,hT0,hH0,hp0,oe,vs,oT,ts,he,hd,h1,hTe,hT,hdT,h3⟩
 ·skip
  refine ad (ap he hd h1 ?_);rw[if_neg (by decide)];refine mD hfr hl hf he hd (Array.getElem?_eq_some_iff.mp h1).1 λh' T hT st fo sl sy=>?_
  refine q h' T s.heap.objs.size hT h0 (.inr (pi _)) (λp hp=>pc (hps p hp)) (λo z=>absurd (u8 z) (Nat.lt_irrefl _)) st fo ?_ (λb o hb _ ho=>sl b o hb ho) (λb o hb ho=>sy b o (λz=>hb ?_) ho) λb o ho=>?_
  ·refine fun_of (as:=[e]) (λb hb o ho=>?_) λb o hb ho=>sl b o (by simpa using hb) ho
   obtain rfl:b=e:=by simpa using hb
   rw[he] at ho;cases ho;exact ⟨vs,hd⟩
  ·rcases lw.mp z with z|z
   ·exact lw.mpr (.inl z)
   ·exact dL _ (dL _ z)
  ·by_cases hb:b=e
   ·subst hb;rw[he] at ho;cases ho;obtain ⟨vs',z,_⟩:=fo _ _ he hd;exact ⟨_,z⟩
   ·obtain ⟨sl',z⟩:=sl b o hb ho;exact ⟨_,z⟩
 ·refine ad (ap he hd h1 ?_);rw[if_pos (show (Value.ref T0 != Value.none)=true from by simp)];refine ad (ap hT hdT h3 ?_);rw[if_neg (show ¬ ((Value.none ==rawInt L)=true) from by simp[rawInt])];refine ad (wpAny_setField hT hdT (Array.getElem?_eq_some_iff.mp h3).1 ?_);have other:∀ b,b≠T0->(s.heap.update T0 (Obj.mapFields (·.setIfInBounds 3 Value.none))).get? b=s.heap.get? b:=λb hb=>Heap.get?_update_other _ _ (Ne.symm hb)
  have self':=Heap.get?_update_self (Obj.mapFields (·.setIfInBounds 3 Value.none)) hT (Obj.isFreed_of_fields (Obj.data_mapFields hdT _));have rec':∀ b o,s.heap.get? b=some o->(∀ vs,o.data≠.fields vs)->b≠T0:=λb o hb hnf z=>by
   rw[z,hT] at hb;cases hb;exact hnf ts hdT
  refine mD (base:=base) hfr (hl.of_keeps λb o hb hnf=>⟨o,(other b (rec' b o hb hnf)).trans hb,rfl⟩) hf ((other e (Ne.symm hTe)).trans he) hd (Array.getElem?_eq_some_iff.mp h1).1 λh' T hTn st fo sl sy=>?_
  have hTn':s.heap.objs.size<=T:=by
   have z:(s.heap.update T0 (Obj.mapFields (·.setIfInBounds 3 Value.none))).objs.size<=T:=hTn
   rwa [Heap.size_after_update] at z
  refine q h' T T0 hTn' hT0 (.inl hH0) hp0 (λo z=>by rw[hT] at z;cases z;exact ⟨ts,hdT⟩) st (bH.trans (bH.same (other e (Ne.symm hTe))) fo) ?_ (λb o hb hb0 ho=>sl b o hb ((other b hb0).trans ho)) (λb o hb ho=>?_) λb o ho=>?_
  ·refine fun_of (as:=[e,T0]) (λb hb o ho=>?_) λb o hb ho=>sl b o (λz=>hb (by simp[z])) ((other b λz=>hb (by simp[z])).trans ho)
   rcases lw.mp hb with hb|hb
   ·subst hb;rw[he] at ho;cases ho;exact ⟨vs,hd⟩
   ·obtain rfl:b=T0:=by simpa using hb
    rw[hT] at ho;cases ho;exact ⟨ts,hdT⟩
  ·have n1:b≠e:=λz=>hb (by simp[z])
   have n2:b≠T0:=λz=>hb (by simp[z])
   refine sy b o (λz=>hb ?_) ((other b n2).trans ho);rcases lw.mp z with z|z
   ·exact lw.mpr (.inl z)
   ·exact dL _ (dL _ z)
  ·by_cases hb:b=e
   ·subst hb;obtain ⟨vs',z,_⟩:=fo _ _ ((other b (Ne.symm hTe)).trans he) hd;exact ⟨_,z⟩
   ·by_cases hb0:b=T0
    ·subst hb0;obtain ⟨sl',z⟩:=sl b _ hb self';exact ⟨_,z⟩
    ·obtain ⟨sl',z⟩:=sl b o hb ((other b hb0).trans ho);exact ⟨_,z⟩
def uz {T:Addr}{fl:Value}(st:AX s.heap e T fl)
  (q:∀ h',AX h' e T .none->(∀ b,b≠T->h'.get? b=s.heap.get? b)->(∃ o,s.heap.get? T=some o)->(∃ o,h'.get? T=some o)->(∃ oT ts,h'.get? T=some oT/\oT.data=.fields ts)->Q () { s with heap:=h' }):wpAny M A (setFlight (.ref e) none) Q E s:=by
 obtain ⟨oe,vs,oT,ts,he,hd,h1,hTe,hT,hdT,h3⟩:=st;have hz:3<ts.size:=(Array.getElem?_eq_some_iff.mp h3).1;have other:∀ b,b≠T->(s.heap.update T (Obj.mapFields (·.setIfInBounds 3 ((none:Option Addr).elim Value.none λf=>rawInt f)))).get? b=s.heap.get? b:=λb hb=>Heap.get?_update_other _ _ (Ne.symm hb)
 have self':=Heap.get?_update_self (Obj.mapFields (·.setIfInBounds 3 ((none:Option Addr).elim Value.none λf=>rawInt f))) hT (Obj.isFreed_of_fields (Obj.data_mapFields hdT _));unfold setFlight;refine ad (ap he hd h1 ?_);rw[if_pos (show (Value.ref T != Value.none)=true from by simp)];refine wpAny_setField hT hdT hz (q _ ⟨oe,vs,_,_,(other e (Ne.symm hTe)).trans he,hd,h1,hTe,self',Obj.data_mapFields hdT _,by simp[hz]⟩ other ⟨_,hT⟩ ⟨_,self'⟩ ⟨_,_,self',Obj.data_mapFields hdT _⟩)
end
variable {A:Around}
section
variable {X:Cx}{U:St}{H:Hp}{s:Shared}{e C:Addr}{dx:Option Addr}{fs:List (Str×V)}{h':Heap}
def Inv.zd {Y:M7}(I:Inv X Y U H s):Inv X [] U H s:=I.oB λ_ z=>absurd z (by simp)
def Inv.Jy {T0:Addr}{as:List Addr}(I:Inv X [] U H s)(hpn:∀ p ∈ X.pn,p.1≠T0) (he:H e=some (.exc C dx fs false)) (has:as=n6 X.stack)
  (hT:X.s₀.heap.objs.size<=T0) (hT0:H T0=none\/s.heap.objs.size<=T0) (hTd:∀ o,s.heap.get? T0=some o->∃ ts,o.data=.fields ts)
  (fo:bH e s.heap h') (sl:∀ b o,b≠e->b≠T0->s.heap.get? b=some o->∃ sl,h'.get? b=some { o with slots:=sl }) (sy:FQ (e::T0::as) s.heap h') (th:∀ b o,s.heap.get? b=some o->∃ o',h'.get? b=some o'):
  Inv X [] U H { s with heap:=h' }:=by
 subst has;obtain ⟨⟨vs,ho,hsz,_⟩,z⟩:=id (I.hok e _ he);have hH0:H T0=none:=by
  rcases hT0 with z|z
  ·exact z
  ·exact I.hok.fresh z
 have nT:∀ {b:Addr}{o:Obj},s.heap.get? b=some o->(∀ vs,o.data≠.fields vs)->b≠T0:=λ{b o} hb hn z=>by
  subst z;obtain ⟨ts,q⟩:=hTd _ hb;exact hn ts q
 have jD:∀ b o,H b=none->b≠T0->b ∉ n6 X.stack->s.heap.get? b=some o->h'.get? b=some o:=λb o hb h0 hf hq=>sy b o (λm=>by
  rcases lw.mp m with m|m
  ·rw[m,he] at hb;cases hb
  ·rcases lw.mp m with m|m
   ·exact h0 m
   ·exact hf m) hq
 have EA:∀ a u,H a=some u->a≠e->∀ o,s.heap.get? a=some o->h'.get? a=some o:=λa u ha ne o hq=>sy a o (λm=>by
  rcases lw.mp m with m|m
  ·exact ne m
  ·rcases lw.mp m with m|m
   ·rw[m,hH0] at ha;cases ha
   ·rw[I.nO a m] at ha;cases ha) hq
 refine I.step (g':=s.gens) (t':=s.toks) (d':=s.drawn) (ch:=[T0]) (h':=h') (λb hb=>?_) (λb o hL hfs hch hq hn=>?_) (λb o hL hfs hch hq hn=>?_) (λb o _ _ hn=>hn) (λb o _ hq=>th b o hq) (λ_ _ q=>q) (λ_ _ _ q=>q) (λb ps q=>⟨#[],by rw[q];simp⟩) (λm hm=>?_) (λa u ha=>?_) I.bare
 ·obtain rfl:b=T0:=by simpa using hb
  refine ⟨.inr hT,?_,λx c hc z=>?_,λp hp=>hpn p (by simpa using hp)⟩
  ·obtain ⟨m,⟨o,es,ep,ho',hd,_⟩,_⟩:=I.loc;intro z;exact nT ho' (λvs q=>by rw[hd] at q;cases q) z.symm
  ·obtain ⟨v,o,ho',hd⟩:=I.cell x c hc;exact nT ho' (λvs q=>by rw[hd] at q;cases q) z
 ·refine jD b o hn (by simpa using hch) (λm=>?_) hq;rcases lw.mp (I.iP b m) with z|z
  ·exact hL z
  ·exact hfs z
 ·exact sl b o (λz=>by rw[z,he] at hn;cases hn) (by simpa using hch) hq
 ·obtain ⟨o,es,ep,ho',hd,r⟩:=hm;have n1:X.env.locals≠e:=λz=>by have:=I.free;rw[z,he] at this;cases this
  obtain ⟨sl',q⟩:=sl _ o n1 (nT ho' λvs q=>by rw[hd] at q;cases q) ho';exact ⟨_,es,ep,q,hd,r⟩
 ·by_cases hae:a=e
  ·subst hae;rw[he] at ha;cases ha;obtain ⟨vs',q,hz⟩:=fo _ vs ho rfl;refine ⟨⟨vs',q,hz.trans hsz,λy=>by cases y⟩,?_⟩;rcases z with z|⟨d,ed,d1,z1,ne,mA,⟨od,es,ep,e2,c⟩,r⟩
   ·exact .inl z
   ·exact .inr ⟨d,ed,d1,z1,ne,mA,⟨od,es,ep,EA d _ d1 ne _ e2,c⟩,r⟩
  ·refine (I.hok a u ha).jD (λb o hb hq=>?_) (λ_ q=>q) λ_ _ q=>q
   rcases hb with hb|hb
   ·subst hb;exact EA b u ha hae o hq
   ·refine EA b _ hb (λz=>?_) o hq;rw[z,he] at hb;cases hb
abbrev yy (P:Program)(w:World):uw:=λouter H s E u s'=>∃ (e:Addr) (H':Hp) (C:Addr) (dx:Option Addr) (fs:List (Str×V)) (T:Addr),u=.ref e/\s'.os=s.os/\AllBare s'.gens/\Un (n6 outer) [] H H' s.heap s'.heap/\gq P w H' s'.heap/\
 H' e=some (.exc C dx fs false)/\s.heap.objs.size<=T/\H' T=none/\AX s'.heap e T .none/\E e H'
abbrev HN (X:Cx)(E:St->XK):Prop:=∀ (U:St) (H:Hp) (s:Shared) (e C:Addr) (dx:Option Addr) (fs:List (Str×V)),Inv X [] U H s->E8 X.s₀.heap.objs.size X.pn H s.heap e->H e=some (.exc C dx fs false)->E U e H->X.xe (.ref e) s
def lX {E:St->XK}(x:HN X E):Passes (yy X.prog X.w) X E:=by
 intro Y U H s u s' I h;obtain ⟨e,H',C,dx,fs,T,rfl,os,bare,un,hok,he,hT,hT0,st,q⟩:=h;have J:Inv X [] U H' s':=Inv.zu (ch:=[]) I.zd os un hok bare (λb z=>absurd z (by simp));exact x U H' s' e C dx fs J (.inr ⟨T,Nat.le_trans I.sz hT,hT0,λp hp=>pc (nw (u8 (I.pin p (mem_append_left _ hp)).1) hT),st⟩) he q
def mz {M:Model}{E E':M6}{Q:Shared->Prop}(I:Inv X [] U H s)(hs:X.stack=X.env::X.outer)(hf:X.env.frame=some X.env.locals)(sf:E8 X.s₀.heap.objs.size X.pn H s.heap e)(he:H e=some (.exc C dx fs false))
  (q:∀ s' T,Inv X [] U H s'->s'.os=s.os->X.s₀.heap.objs.size<=T->H T=none->(∀ p ∈ X.pn,p.1≠T)->AX s'.heap e T .none->Q s'):
  wpAny M X.A (noteFrame (.ref e) X.env) (λ_ s1=>wpAny M X.A (setFlight (.ref e) none) (λ_ s2=>Q s2) E s1) E' s:=by
 have hl:s.heap.FunFrames X.base (X.env::X.outer):=hs▸I.stack;refine Co (by rw[<-hs];exact I.ok.frames) hl hf sf I.sz (λp hp=>u8 (I.pin p (mem_append_left _ hp)).1) λh1 T T0 hT hT0 hH0 hp0 hTd st fo fF sl sy th=>?_
 have I1:=I.Jy (T0:=T0) (as:=n6 (X.env::X.outer)) (h':=h1) hp0 he (by rw[hs]) hT0 hH0 hTd fo sl sy th;have hHT:H T=none:=I.hok.fresh hT;have hpT:∀ p ∈ X.pn,p.1≠T:=λp hp=>pc (nw (u8 (I.pin p (mem_append_left _ hp)).1) hT)
 refine uz (s:={ s with heap:=h1 }) st λh2 pk oth _ th2 rec2=>?_
 have I2:Inv X [] U H { s with heap:=h2 }:=by
  refine Inv.turned (s:={ s with heap:=h1 }) (it:=T) (h':=h2) (t':=s.toks) I1 (λb o hb hq=>(oth b hb).trans hq) hHT ?_ (.inr (Nat.le_trans I.sz hT)) (λx c hc z=>?_) λp hp=>hpT p (by simpa using hp)
  ·exact λz=>absurd (nw I.lt hT) (by rw[z];exact Nat.lt_irrefl _)
  ·obtain ⟨v,o,ho,_⟩:=I.cell x c hc;exact absurd (nw (u8 ho) hT) (by rw[z];exact Nat.lt_irrefl _)
 exact q _ T I2 rfl (Nat.le_trans I.sz hT) hHT hpT pk
def wX {P:Program}{w:World}{K:W.Frag}{mg:M8}{base:Heap}{N:List Str}{qual:Str}{scope:Scope}{f:Addr}{cd:Value}{outer:List Env}{E:XK}:
  HN (wg (yy P w) P w K mg base N qual scope f cd A outer s H E) (λ_=>E):=by
 intro σ' H' s' e C dx fs I sf he q;show wpAny _ _ (do noteFrame (.ref e) _;setFlight (.ref e) none) _ _ s';refine ad (mz I rfl rfl sf he λs2 T J os hT hH _ st=>?_);exact ⟨e,H',C,dx,fs,T,rfl,J.os,J.bare,J.base,J.hok,he,hT,hH,st,q⟩
end
structure KH (K:W.Frag) (C f:Addr):Prop where
 mks:bZ K C=true
 init:W.findIn K (.ref C) "__init__"=some (some (.ref f))
 fn:W.isFn K (.ref f)=true
 kp:W.keepIn K (.ref C)=true
variable {us:List Value}{vs:List V}
section
variable {X:Cx}{Y:M7}{U:St}{H:Hp}{s:Shared}{C f:Addr}
def Inv.Em (us:List Value)(I:Inv X Y U H s):Inv X Y U (upd H (s.heap.objs.size+1) (.exc C none [] true))
  { s with heap:=(s.heap.push { cls:=.type "tuple",data:=.seq us.toArray }).push { cls:=.ref C,data:=.fields #[.ref s.heap.objs.size,.none,.none,.none,.bool false,.none] } }:=by
 have I1:=I.kept (h':=s.heap.push { cls:=.type "tuple",data:=.seq us.toArray }) (t':=s.toks) λb u q=>tz _ q
 refine Inv.laid (s:={ s with heap:=s.heap.push { cls:=.type "tuple",data:=.seq us.toArray } }) (a:=s.heap.objs.size+1) (o:=.exc C none [] true) (t':=s.toks) I1 (λb u q=>tz _ q) (Nat.le_of_eq (Heap.size_push _ _)) ?_;refine ⟨⟨#[.ref s.heap.objs.size,.none,.none,.none,.bool false,.none],?_,rfl,λ_=>rfl⟩,.inl ⟨rfl,rfl⟩⟩;have:=ul (s.heap.push { cls:=.type "tuple",data:=.seq us.toArray }) (o:={ cls:=.ref C,data:=.fields #[.ref s.heap.objs.size,.none,.none,.none,.bool false,.none] }) rfl
 rwa [Heap.size_push] at this
variable {CX:uw}{k:Nat}{fd:FuncData}{ps:List Str}{sp:Sp}{dvs:List V}{ds:List Value}{E:St->XK}{x m:Str}{p pos apos:Pos}{e o:Expr}{es:List Expr}{ta:TE}{t:TA}
abbrev zV (C:Addr)(sp:Sp)(dvs:List V)(E:St->XK)(t:TA):TE:=λU H Q=>t U H λvs H1=>vs.length<=1000/\∀ x,H1 x=none->sp (.ref x::(vs++dvs)) (upd H1 x (.exc C none [] true)) (λv H2=>v=.non/\Q (.ref x) H2) (E U)
def md {Q:VK}(M:KH X.K C f)(F:c9 X.prog X.w X.K X.mg X.base CX k f fd ps sp)(hr:bP (k+1) X.A)(hb:Binds X.K fd ps ds)(hd:Vals dvs ds)
  (hx:Passes CX X E) (hz:us.length<=bn) (I:Inv X Y U H s) (r:Vals vs us)
  (h:∀ x,H x=none->sp (.ref x::(vs++dvs)) (upd H x (.exc C none [] true)) (λv H2=>v=.non/\Q (.ref x) H2) (E U)):
  wpAny (model X.prog X.w) X.A (call (.ref C) us) (EP X Y U Q) X.xe s:=by
 have hq:=h (s.heap.objs.size+1) (I.hok.fresh (Nat.le_succ _));have I2:=Inv.Em (C:=C) us I;have r2:Vals (V.ref (s.heap.objs.size+1)::(vs++dvs)) (Value.ref (s.heap.objs.size+1)::(us++ds)):=.cons rfl (r.append hd);have hl:(Value.ref (s.heap.objs.size+1)::us++ds).length=ps.length:=by
  have e:=r2.length;rw[F.len _ _ _ _ hq] at e;exact e.symm
 obtain ⟨hh,g,d,tk,os⟩:=s;refine wpAny_call (Hn (fI:=f) I.bO hz M.mks M.init (beq_iff_eq.mp M.fn) (codeAny_mono (F.run _ X.stack _ _ ⟨Value.ref (hh.objs.size+1)::us,[]⟩ (Value.ref (hh.objs.size+1)::(us++ds)) _ _ (E U) (hr.make C us [])
  (I2.ir.make C us []) (hb _ (Value.ref (hh.objs.size+1)::us) I2.bO hl) r2 hq) λr s' hq'=>?_))
 cases r with
 |error e=>exact hx Y U _ _ e s' I2 hq'
 |ok fl=>
  cases fl with
  |ret u=>
   obtain ⟨v,H',J,rv,ev,q⟩:=I2.after hq';subst ev;obtain rfl:u=Value.none:=rv;exact ⟨rfl,.ref _,H',J,rfl,q⟩
  |next=>exact False.elim hq'
  |brk=>exact False.elim hq'
  |cont=>exact False.elim hq'
def Aw (M:KH X.K C f)(F:c9 X.prog X.w X.K X.mg X.base CX k f fd ps sp)(hr:bP (k+1) X.A)(hg:Gl X x)(hm:X.mg x=some (.ref C))(hb:Binds X.K fd ps ds)(hd:Vals dvs ds)(hx:Passes CX X E)
  (ha:PA X (e::es) t) (hdb:(x ==("__debug__":Str))=false:=by decide) (he:bm (e::es) X.env=(false,eval e X.env)::bm es X.env:=by rfl) (hpl:(backTo pos (bm es X.env)).any (·.1)=false:=by rfl):
  PE X (.Call (.Name x p) (e::es) [] pos) (zV C sp dvs E t):=by
 intro Y s U H Q I h;refine bv (bE I hg hm ?_ hdb);refine W.callWith_K (h₀:=X.base) I.ok.mod.kin M.kp (ax (ha pos Y s U H _ I h) λus s1 ⟨vs,H1,I1,r,z,q⟩=>⟨I1.bO,?_⟩) he hpl;exact md M F hr hb hd hx (by rw[nil_append,<-r.length];exact Nat.le_of_lt (cD z)) I1 r q
structure FR (K:W.Frag) (C:Addr):Prop where
 mks:bZ K C=true
 init:W.findIn K (.ref C) "__init__"=some (some (.builtin "ValueError.__init__"))
 kp:W.keepIn K (.ref C)=true
 cls:cN K C
abbrev B2 (C:Addr)(t:TA):TE:=λU H Q=>t U H λvs H1=>vs.length=1/\∀ x,H1 x=none->Q (.ref x) (upd H1 x (.exc C none [] true))
def sY {Q:VK}(M:FR X.K C)(I:Inv X Y U H s)(r:Vals vs us)(h1:vs.length=1)(h:∀ x,H x=none->Q (.ref x) (upd H x (.exc C none [] true))):
  wpAny (model X.prog X.w) X.A (call (.ref C) us) (EP X Y U Q) X.xe s:=by
 have hq:=h (s.heap.objs.size+1) (I.hok.fresh (Nat.le_succ _));have I2:=Inv.Em (C:=C) us I;obtain ⟨u,rfl⟩:∃ u,us=[u]:=by
  have e:=r.length;rw[h1] at e
  match us,e with
  | [u],_=>exact ⟨u,rfl⟩
 obtain ⟨hh,g,d,tk,os⟩:=s;refine wpAny_call (BQ I.bO (by rw[sizeLine_eq];exact ol rfl) M.mks M.init (kh (C:=C) (dx:=none) (fs:=[]) (fr:=true) I2 av M.cls λs' J=>?_));exact ⟨rfl,.ref _,_,J,rfl,hq⟩
def ye (M:FR X.K C)(hg:Gl X x)(hm:X.mg x=some (.ref C))(ha:PA X (e::es) t)(hdb:(x ==("__debug__":Str))=false:=by decide) (he:bm (e::es) X.env=(false,eval e X.env)::bm es X.env:=by rfl) (hpl:(backTo pos (bm es X.env)).any (·.1)=false:=by rfl):
  PE X (.Call (.Name x p) (e::es) [] pos) (B2 C t):=by
 intro Y s U H Q I h;refine bv (bE I hg hm ?_ hdb);refine W.callWith_K (h₀:=X.base) I.ok.mod.kin M.kp (ax (ha pos Y s U H _ I h) λus s1 ⟨vs,H1,I1,r,z,q⟩=>⟨I1.bO,?_⟩) he hpl;exact sY M I1 r z q
structure Ml (K:W.Frag) (B:Addr):Prop where
 ga:W.specialIn K (.ref B) "__getattribute__"=some (some (.builtin "type.__getattribute__"))
 rd:W.readsIn K B (.type "type")=true
 fi:W.findCls K (.ref B) (.type "type") "__init__"=some (.val (.builtin "ValueError.__init__"))
abbrev Ln (K:W.Frag)(t:TA):TE:=λU H Q=>t U H λvs H1=>∃ a C dx fs fr v,vs=[.ref a,v]/\H1 a=some (.exc C dx fs fr)/\cN K C/\Q .non H1
def Gv {B:Addr}{pl:Sem Bool}{np:Pos}(b:Ml X.K B)(hg:Gl X x)(hm:X.mg x=some (.ref B))(ha:PA X (e::es) t)(hdb:(x ==("__debug__":Str))=false:=by decide)
  (hst:bm (e::es) X.env=(false,eval e X.env)::bm es X.env:=by rfl) (hpl:(backTo pos (bm es X.env)).any (·.1)=false:=by rfl)
  (ht:eval (.Call (.Attribute (.Name x np) "__init__" apos) (e::es) [] pos) X.env=(do
   let ov <-eval (.Name x np) X.env
   standAt apos.atName
   let (f,first) <-holding [ov] (getMethod ov "__init__" pl)
   callWith pos f first (backTo pos (bm (e::es) X.env)) (backToKw pos (keywordEach [] X.env))):=by rfl):
  PE X (.Call (.Attribute (.Name x np) "__init__" apos) (e::es) [] pos) (Ln X.K t):=by
 intro Y s U H Q I h;refine W.methodCall_KW (pl:=pl) (bE I hg hm ?_ hdb) ht;refine W.method_cls I.bO b.ga (W.cls_value I.bO b.rd b.fi (by decide+kernel) ?_);refine PyProof.Rows.callWith_builtin1 (ax (ha pos Y _ U H _ (I.tok _) h) λus s1 ⟨vs,H1,I1,r,a,C,dx,fs,fr,v,ev,ea,c,q⟩=>?_) hst hpl;subst ev;cases r with
 |cons r1 r2=>
  cases r2 with
  |cons r3 r4=>
   cases r4;cases r1;exact sW I1 ea c λs' J=>⟨.non,H1,J,rfl,q⟩
structure MY (K:W.Frag) (C f:Addr):Prop where
 ga:W.specialIn K (.ref C) "__getattribute__"=some (some (.builtin "type.__getattribute__"))
 rd:W.readsIn K C (.type "type")=true
 fi:W.findCls K (.ref C) (.type "type") "__init__"=some (.val (.ref f))
 kp:W.keepIn K (.ref f)=true
end
section
open PySem.Builtin PySem.Builtin.ObjectAttr
variable {prog:Program}{w:World}{A:Around}{E:M6}{s:Shared}{K:W.Frag}{x C:Addr}{ox:Obj}{odo:Option Obj}
structure Av (K:W.Frag) (C:Addr):Prop where
 ha:W.findIn K (.ref C) "__class__"=some (some (.builtin "object.__class__"))
 hn:W.specialIn K (.builtin "object.__class__") "__get__"=some (some (.builtin "getset_descriptor.__get__"))
 htk:W.takesIn K (.builtin "object.__class__")=some true
def B8 {Q:M4}(X:K.In s.heap)(I:W.InstAt s.heap x ox C odo)(c:cN K C)(z:Av K C)(hfo:W.findObj K C odo "__class__"=some (.bind (.builtin "getset_descriptor.__get__") (.builtin "object.__class__")))
  (h:Q (some (.ref C)) { s with toks:=s.toks+1 }):wpAny (model prog w) A (getAttr? (.ref x) "__class__") Q E s:=by
 obtain ⟨hp,g,d,t,os⟩:=s;have L0:=I.type (M:=model prog w);have L1:=looks_findIn (M:=model prog w) X c.ga;have L2':=looks_findIn (M:=model prog w) X c.gn;have L3:=looks_find (M:=model prog w) X I hfo;have L4:Looks (model prog w) hp (isInstance (.ref x) (.type "BaseException")) true:=I.type.andThen (looks_mroIn X (c.sub (by decide+kernel)));unfold getAttr? getAttrBy? getAttrBy;refine ad (wpAny_mkText (ad (wpAny_attempt (bd (ad (L0.at (ad (L1.at ?_))))))));have e1:(Value.builtin "BaseException.__getattribute__" ==Value.builtin "object.__getattribute__")=false:=by decide+kernel
 dsimp only;rw[e1,Bool.and_false];show wpAny _ _ (getAttrByItsOwn _ _ _ _ _ _) _ _ _;unfold getAttrByItsOwn hookBefore;refine ad (L2'.at ?_);refine ad (wpAny_attempt (bd ?_));unfold callGetattribute;show wpAny _ _ (boundAndCalled _ _ _) _ _ _;unfold boundAndCalled;rw[PySem.F.attr_ValueError.ga.bind];refine ad (am (wpAny_call (codeAny_call_builtin PySem.F.attr_ValueError.ga.plain PySem.F.entry_bexc_ga ?_)));refine @check_slot (model prog w) _ _ _ "BaseException.__getattribute__" "BaseException" "__getattribute__" (.ref x) [.str "__class__" t] [] _ pH l8 L4 (PySem.F.args_bexc_ga (.ref x) (.str "__class__" t)) ?_;unfold Builtin.«object.__getattribute__»;refine ad (am (ad (am (ad (L0.at (ad (L3.at ?_)))))));show wpAny _ _ (holding [_] (call _ [_,.ref x,.ref C]) >>= ret) _ _ _;refine ad (bd (wpAny_call (class_get (s:=⟨hp,g,d,t+1,os⟩) (ox:=ox) (od:=odo) X I (c.sub (by decide+kernel)) ?_)));refine am ?_;show wpAny _ _ (handedOut (.ref C)) _ _ _;exact handed_on rfl (am h)
def Ab (c:cN K C)(z:Av K C):W.findObj K C odo "__class__"=some (.bind (.builtin "getset_descriptor.__get__") (.builtin "object.__class__")):=by
 obtain ⟨cd,hc,_⟩:=W.any_some c.hd;unfold W.findObj;rw[hc,Option.bind_some,z.ha,Option.bind_some];simp[z.hn,z.htk]
def pU (c:cN K C)(z:Av K C):W.KitX K (.ref x) (.ref C) (λh=>W.InstAt h x ox C odo) where
 ty:=λ_ _ _ I=>I.type
 it:=λ_ _ X _=>by
  obtain ⟨cdD,hcD,_⟩:=W.any_some c.hd;unfold W.clsIn at hcD
  split at hcD
  ·rename_i c' d' cd' sl' ho;intro A' Q' E' s' k q;unfold isType loadHead;exact ad (wpAny_loadPart (k _ _ (X _ _ ho)) (am q))
  ·cases hcD
 ne:=λh tp dd its n sl X htp=>by
  obtain ⟨cdD,hcD,_⟩:=W.any_some c.hd;refine Bool.eq_false_iff.mpr λq=>?_
  have e:C=tp:=Value.ref.inj (beq_iff_eq.mp q);subst e;unfold W.clsIn at hcD
  split at hcD
  ·rename_i c' d' cd' sl' ho;have z:=(X _ _ ho).symm.trans htp;cases z
  ·cases hcD
 ca:=λX I k=>B8 X I c z (Ab c z) k
end
section
variable {X:Cx}{Y:M7}{U:St}{H:Hp}{s:Shared}{a C:Addr}{dx:Option Addr}{fs:List (Str×V)}{fr:Bool}
def pN (I:Inv X Y U H s)(e:H a=some (.exc C dx fs fr)):∃ ox odo,W.InstAt s.heap a ox C odo:=by
 obtain ⟨⟨vs,ho,_⟩,z⟩:=id (I.hok a _ e);rcases z with ⟨rfl,_⟩|⟨d,rfl,_,_,_,mA,⟨od,es,ep,hod,_⟩,_⟩
 ·exact ⟨_,none,ho,rfl,rfl,True.intro⟩
 ·exact ⟨_,some od,ho,rfl,rfl,hod⟩
def zM {E:M6}{Q:M6}{cv:Value}{b:Bool}(I:Inv X Y U H s)(e:H a=some (.exc C dx fs fr))(c:cN X.K C)(z:Av X.K C)(k:W.kitOne X.K (.ref C) cv=some b)
  (h:∀ tk,Q (.bool b) { s with toks:=tk }):wpAny (model X.prog X.w) A (call (.builtin "isinstance") [.ref a,cv]) Q E s:=by
 obtain ⟨ox,odo,J⟩:=pN I e;exact W.kia_one (pU (ox:=ox) (odo:=odo) c z) I.bO J k (λz=>nomatch z) h
end
end L2
namespace L2
open PySem PySem.Spec PySem.W PyProof.Rows
variable {dx:Option Addr}
section
variable {X:Cx}{f:Str}{o value ex:Expr}{ta tv te:TE}{pos pos':Pos}{E:St->XK}
def tJ {h:Heap}{a:Addr}{C:Addr}{vs:Array Value}{M:Model}(ho:h.get? a=some { cls:=.ref C,dict:=dx,data:=.fields vs }):W.Looks M h (isType (.ref a)) false:=by
 intro A Q E s k q;unfold isType loadHead;exact ad (wpAny_loadPart (k _ _ ho) (am q))
abbrev Gj (K:W.Frag)(E:St->XK)(te:TE):TS:=λD U H=>te U H λv H1=>∃ a C dx fs,v=.ref a/\H1 a=some (.exc C dx fs true)/\cN K C/\E U a (upd H1 a (.exc C dx fs false))
def AH (hx:HN X E)(hc:X.calm=true)(he:PE X ex te):PS X (.Raise (some ex) none pos) (Gj X.K E te):=by
 intro Y s U H D I h;rw[arm_exec_Raise];simp only[evalOpt,Option.map];refine ad (wpAny_standAt ?_);unfold raiseStmt;refine ad (ad (ax (he Y s U H _ I h) λu s1 ⟨y,H1,I1,ry,a,C,dx,fs,ey,ea,c,q⟩=>ad (wpAny_standAt (am ?_))));subst ey;obtain rfl:u=Value.ref a:=ry;obtain ⟨⟨vs,ho,hsz,h1⟩,z⟩:=id (I1.hok a _ ea);have h1':=h1 rfl;have hq:X.xe (.ref a) s1:=by
  have J:Inv X [] U (upd H1 a (.exc C dx fs false)) s1:=by
   have J1:=I1.zd.write (x:=a) (e:=a) (o:=.exc C dx fs false) (t':=s1.toks) (h':=s1.heap) (by rw[ea];exact True.intro) (.inl rfl) (λ_ _ _ q=>q) ⟨_,ho⟩ ?_
   ·exact J1
   ·refine ⟨⟨vs,ho,hsz,λy=>by cases y⟩,?_⟩;rcases z with z|⟨d,ed,d1,z1,ne,r⟩
    ·exact .inl z
    ·exact .inr ⟨d,ed,by rw[ag ne];exact d1,z1,ne,r⟩
  exact hx U _ s1 a C dx fs J (.inl ⟨_,vs,ho,rfl,h1'⟩) av q
 obtain ⟨hp,g,d,tk,os⟩:=s1;have L0:Looks (model X.prog X.w) hp (typeOf (.ref a)) (.ref C):=(Looks.ld ho).andThen .now;have L1:Looks (model X.prog X.w) hp (isType (.ref a)) false:=tJ ho;have L2':Looks (model X.prog X.w) hp (isInstance (.ref a) (.type "BaseException")) true:=L0.andThen (looks_mroIn I1.bO (c.sub (by decide+kernel)));have L5:Looks (model X.prog X.w) hp (typeOf (.ref C)) (.type "type"):=looks_typeIn I1.bO c.mt;have tt:(Value.type "type" ==Value.type "type")=true:=by decide
 repeat (first|simp only[Bool.false_eq_true,if_false,if_true,tt]|lk)
 rw[h1'];refine am ?_;rw[if_neg (by decide)];exact am (wpAny_raiseNew_none (I1.ok.hd hc) hq)
end
@[reducible]def Cx.bD (X:Cx) (e:Value):Cx:={ X with A:=X.A.mark (some e),calm:=false,xe:=λ_ _=>False }
variable {xe:M6}{ps:M7}{D:Ends}
section
variable {X:Cx}{Y:M7}{U:St}{H:Hp}{s:Shared}
def Cx.Ok.bD (ok:X.Ok)(e:Value):(X.bD e).Ok:=
 ⟨ok.mod,ok.kind,ok.glob,ok.blt,ok.above,ok.inj,ok.has,ok.cab,(λz=>by cases z),ok.frames,ok.stk,ok.exf,ok.bs,ok.bsz,ok.noex,ok.exfs,ok.jz,ok.frf⟩
def Inv.bD (I:Inv X Y U H s)(e:Value):Inv (X.bD e) Y U H s:=⟨I.ok.bD e,I.os,I.bare,I.base,I.loc,I.cell,I.free,I.freeC,I.pin,I.hok,I.len⟩
def Inv.jN {e:Value}(ok:X.Ok)(I:Inv (X.bD e) Y U H s):Inv X Y U H s:=⟨ok,I.os,I.bare,I.base,I.loc,I.cell,I.free,I.freeC,I.pin,I.hok,I.len⟩
def fk {M:Model}{A:Around}{E:M6}{Q:M5}{i:Nat}{n:Str}{pos:Pos}(I:Inv X Y U H s)(hN:X.N.Nodup)(hi:X.N[i]? =some n)(hn:X.env.scope.names.lookup n=some .local)
  (h:∀ s',Inv X Y (U.set i none) H s'->Q () s'):wpAny M A (do bindName X.env n .none;unbindBehindTheSuite X.env n pos) Q E s:=by
 have hcls:(X.env.scope.kind ==.class||(X.env.scope.kind ==.module&&X.env.locals != X.env.globals))=false:=by rw[I.ok.kind];rfl
 refine ad (wpAny_bindName (bJ I hN hi (.inl hn) (v:=.non) rfl (λs1 I1=>?_) (.inr hn)));obtain ⟨m,hm,hl⟩:=I1.loc;unfold unbindBehindTheSuite;refine wpAny_onRaise ?_;unfold unbindName;refine ad (wpAny_point (ad ?_));unfold deleteName;have hk:X.env.kindOf n=some .local:=hn;have hiσ:i<U.length:=by rw[I.len];exact (sK.mp hi).1
 have hmn:(m n).isSome=true:=by
  obtain ⟨u,_,l⟩:=hl i n .non hi (by rw[getElem?_set_self hiσ]) (.inl hn);rcases l with ⟨_,q⟩|⟨q,_⟩
  ·rw[q];rfl
  ·rcases q with q|q<;>(rw[hk] at q;cases q)
 simp only[hk,hcls];rw[if_neg (by decide)];refine ad (wpAny_nsDel_keeps hm λh2 v hn2 hs2=>?_);rw[hmn];simp only[if_true,Bool.not_true,Bool.false_eq_true,if_false];refine am (wpAny_point (h { s1 with heap:=h2 } ?_));obtain ⟨oL,esL,epL,hoL,_⟩:=id hm;have yV:=I1.yV;refine ⟨I1.ok,I1.os,I1.bare,⟨λb o e n hb hx=>?_,λb o e n hb hx=>?_,I1.base.free,λb o e hx=>?_,I1.base.tups,I1.base.frzs,I1.base.tbls⟩,⟨_,hn2,λj y v' e1 e2 e3=>?_⟩,λy c e=>?_,I1.free,I1.freeC,λp hp=>?_,λa u ha=>?_,by rw[length_set];exact I.len⟩
 ·exact (hs2.2 b (pc (nw (u8 e) I1.ok.above))).trans (I1.base.keep b o e n hb hx)
 ·obtain ⟨sl,q⟩:=I1.base.slot b o e n hb hx;exact ⟨sl,(hs2.2 b (pc (nw (u8 e) I1.ok.above))).trans q⟩
 ·obtain ⟨o',q⟩:=I1.base.there b o e hx;exact ⟨o',(hs2.2 b (pc (nw (u8 e) I1.ok.above))).trans q⟩
 ·have hj:j≠i:=λz=>by rw[z,getElem?_set_self hiσ] at e2;cases e2
  rw[getElem?_set_ne (Ne.symm hj)] at e2;obtain ⟨u,r,q⟩:=hl j y v' e1 (by rw[getElem?_set_ne (Ne.symm hj)];exact e2) e3;refine ⟨u,r,?_⟩;rcases q with ⟨k,e⟩|⟨k,c,e,z⟩
  ·refine .inl ⟨k,?_⟩;have ny:y≠n:=λz=>hj (j9 hN e1 (z▸hi))
   show (if y=n then v else m y)=some u;rw[if_neg ny];exact e
  ·exact .inr ⟨k,c,e,z.sameBut hs2 (yV y c e)⟩
 ·obtain ⟨w',z⟩:=I1.cell y c e;exact ⟨w',z.sameBut hs2 (yV y c e)⟩
 ·obtain ⟨e,n,ne,nf,d⟩:=I1.pin p hp;exact ⟨(hs2.2 p.1 ne).trans e,n,ne,nf,d⟩
 ·refine (I1.hok a u ha).jD (λb o hb hq=>(hs2.2 b ?_).trans hq) (λ_ q=>q) λ_ _ q=>q
  rintro rfl;rcases hb with hb|hb
  ·rw[<-hb,I1.free] at ha;cases ha
  ·rw[I1.free] at hb;cases hb
@[reducible]def Cx.fZ (X:Cx) (Y:M7) (xe:M6):Cx:={ X with pn:=X.pn++Y,xe:=xe }
def Cx.Ok.fZ (ok:X.Ok)(Y:M7)(xe:M6):(X.fZ Y xe).Ok:=
 ⟨ok.mod,ok.kind,ok.glob,ok.blt,ok.above,ok.inj,ok.has,ok.cab,ok.hd,ok.frames,ok.stk,ok.exf,ok.bs,ok.bsz,ok.noex,ok.exfs,ok.jz,ok.frf⟩
def Inv.fZ (I:Inv X Y U H s)(xe:M6):Inv (X.fZ Y xe) [] U H s:=
 ⟨I.ok.fZ Y xe,I.os,I.bare,I.base,I.loc,I.cell,I.free,I.freeC,λp hp=>I.pin p (by simpa using hp),I.hok,I.len⟩
def Inv.gr (ok:X.Ok)(I:Inv (X.fZ Y xe) ps U H s):Inv X Y U H s:=
 ⟨ok,I.os,I.bare,I.base,I.loc,I.cell,I.free,I.freeC,λp hp=>I.pin p (mem_append_left _ hp),I.hok,I.len⟩
def SP.gr {f:Flow}(ok:X.Ok)(h:SP (X.fZ Y xe) ps D f s):SP X Y D f s:=by
 cases f with
 |next=>obtain ⟨σ',H',I,q⟩:=h;exact ⟨σ',H',I.gr ok,q⟩
 |brk=>obtain ⟨σ',H',I,q⟩:=h;exact ⟨σ',H',I.gr ok,q⟩
 |cont=>obtain ⟨σ',H',I,q⟩:=h;exact ⟨σ',H',I.gr ok,q⟩
 |ret u=>obtain ⟨v,σ',H',I,r,q⟩:=h;exact ⟨v,σ',H',I.gr ok,r,q⟩
def Ft {body:List Stmt}{h0:ExceptHandler}{hs:List ExceptHandler}{pos:Pos}{E':St->XK}(I:Inv X Y U H s)(hstk:X.stack=X.env::X.outer)(hfr:X.env.frame=some X.env.locals)
  (hb:∀ xe,HN (X.fZ Y xe) E'->PassesOwn (model X.prog X.w) X.A X.env xe->wpAny (model X.prog X.w) X.A (execs body X.env) (SP (X.fZ Y xe) [] D) xe s)
  (hh:∀ (U:St) (H:Hp) (s:Shared) (e C:Addr) (dx:Option Addr) (fs:List (Str×V)) (T:Addr),Inv X Y U H s->H e=some (.exc C dx fs false)->X.s₀.heap.objs.size<=T->H T=none->(∀ p ∈ X.pn++Y,p.1≠T)->AX s.heap e T .none->E' U e H->
   wpAny (model X.prog X.w) X.A (handleBy (.ref e) X.env (h0::hs)) (SP X Y D) X.xe s):
  wpAny (model X.prog X.w) X.A (exec (.Try body (h0::hs) [] [] pos) X.env) (SP X Y D) X.xe s:=by
 refine wpAny_Try_except (wpAny_mono (hb (λu s1=>wpAny (model X.prog X.w) X.A (noteFrame u X.env) (λ_ s2=>wpAny (model X.prog X.w) X.A (setFlight u none) (λ_ s3=>wpAny (model X.prog X.w) X.A (handleBy u X.env (h0::hs)) (SP X Y D) X.xe s3) X.xe s2) X.xe s1) ?_ PassesOwn.looking) (λf s1 h1=>?_) λ_ _ z=>z)
 ·intro σ' H' s' e C dx fs J sf he q;exact mz (X:=X.fZ Y _) J hstk hfr sf he λs2 T J2 _ hT hH hp st=>hh σ' H' s2 e C dx fs T (J2.gr I.ok) he hT hH hp st q
 ·have h2:=SP.gr I.ok h1;cases f with
  |next=>exact wpAny_execs_nil h2
  |brk=>exact h2
  |cont=>exact h2
  |ret u=>exact h2
def rD {n x:Str}{np hpos:Pos}{b0:Stmt}{bD:List Stmt}{rest:List ExceptHandler}{i:Nat}{e C Ch T:Addr}{fs:List (Str×V)}{b:Bool}(I:Inv X Y U H s)(he:H e=some (.exc C dx fs false))
  (hT:X.s₀.heap.objs.size<=T) (hH:H T=none) (hp:∀ p ∈ X.pn++Y,p.1≠T) (st:AX s.heap e T .none) (c:cN X.K C) (ch:cN X.K Ch) (hsub:W.mroIn X.K C (.ref Ch)=some b) (hg:Gl X x) (hm:X.mg x=some (.ref Ch))
  (hN:X.N.Nodup) (hi:X.N[i]? =some n) (hn:X.env.scope.names.lookup n=some .local) (hdb:(x ==("__debug__":Str))=false)
  (yes:b=true->∀ s2,Inv (X.bD (.ref e)) Y (U.set i (some (.ref e))) H s2->wpAny (model X.prog X.w) (X.A.mark (some (.ref e))) (execs (b0::bD) X.env)
   (SP (X.bD (.ref e)) Y { nx:=λσ' H'=>D.nx (σ'.set i none) H',rt:=D.rt,bk:=λσ' H'=>D.bk (σ'.set i none) H',ct:=λσ' H'=>D.ct (σ'.set i none) H' }) (λ_ _=>False) s2)
  (no:b=false->wpAny (model X.prog X.w) X.A (handleBy (.ref e) X.env rest) (SP X Y D) X.xe s):
  wpAny (model X.prog X.w) X.A (handleBy (.ref e) X.env (.ExceptHandler (some (.Name x np)) (some n) (b0::bD) hpos::rest)) (SP X Y D) X.xe s:=by
 have I':=I.bD (.ref e);refine wpAny_handleBy_cons (codeAny_handlers_test (bE (X:=X.bD (.ref e)) I' hg hm ?_ hdb)) (by intro q;cases q);obtain ⟨⟨vs,ho,hsz,h1⟩,z⟩:=id (I.hok e _ he);have L0:Looks (model X.prog X.w) s.heap (typeOf (.ref e)) (.ref C):=(Looks.ld ho).andThen .now;have L1:Looks (model X.prog X.w) s.heap (typeOf (.ref Ch)) (.type "type"):=looks_typeIn I.bO ch.mt;have L2':Looks (model X.prog X.w) s.heap (isInstance (.ref Ch) (.type "tuple")) false:=L1.andThen (Looks.of_pure tc_notTuple);have L3:Looks (model X.prog X.w) s.heap (isType (.ref Ch)) true:=by
  obtain ⟨cd,rs,hcl,_⟩:=ch.mro;unfold W.clsIn at hcl
  split at hcl
  ·rename_i ho';intro A' Q' E' s' k q;unfold isType loadHead;exact ad (wpAny_loadPart (k _ _ (I.bO _ _ ho')) (am q))
  ·cases hcl
 have L4:Looks (model X.prog X.w) s.heap (isSubtype (.ref Ch) (.type "BaseException")) true:=looks_mroIn I.bO (ch.sub (by decide+kernel));have L5:Looks (model X.prog X.w) s.heap (isSubtype (.ref C) (.ref Ch)) b:=looks_mroIn I.bO hsub;have L6:Looks (model X.prog X.w) s.heap (isExcClass (.ref Ch)) true:=by
  unfold isExcClass;exact L3.andThen L4
 unfold excMatches;refine ad (L2'.here ?_);rw[if_neg (by decide)];refine ad (am ?_);simp only[forIn_cons,forIn_nil];refine ad (ad (ad (L6.here ?_)));rw[if_neg (by decide)];refine am ?_;refine am ?_;refine ad (L0.here ?_);refine ad (ad (ad (L5.here ?_)));cases b with
 |false=>
  rw[if_neg (by decide)];refine am ?_;refine am ?_;refine am ?_;exact no rfl
 |true=>
  rw[if_pos rfl];refine am ?_;refine am ?_;refine am ?_;refine codeAny_handlers_suite_as (uz st λh2 pk oth _ th2 _=>?_);have I2:Inv X Y U H { s with heap:=h2 }:=by
   refine Inv.turned (it:=T) (h':=h2) (t':=s.toks) I (λb o hb hq=>(oth b hb).trans hq) hH ?_ (.inr hT) (λy cc hc z=>?_) hp
   ·intro z;obtain ⟨m,⟨o,es,ep,ho',hd,_⟩,_⟩:=I.loc;obtain ⟨_,_,oT,ts,_,_,_,_,hT2,hd2,_⟩:=st;rw[z,ho'] at hT2;cases hT2;rw[hd] at hd2;cases hd2
   ·obtain ⟨v,o,ho',hd⟩:=I.cell y cc hc;obtain ⟨_,_,oT,ts,_,_,_,_,hT2,hd2,_⟩:=st;rw[<-z,ho'] at hT2;cases hT2;rw[hd] at hd2;cases hd2
  refine bJ (X:=X.bD (.ref e)) (I2.bD (.ref e)) hN hi (.inl hn) (v:=.ref e) rfl (λs3 I3=>?_) (.inr hn);refine wpAny_mono (yes rfl s3 I3) (λf s4 h4=>?_) λ_ _ z=>z.elim
  cases f with
  |next=>
   obtain ⟨σ',H',J,q⟩:=h4;exact fk (J.jN I.ok) hN hi hn λs5 J5=>⟨_,H',J5,q⟩
  |brk=>
   obtain ⟨σ',H',J,q⟩:=h4;exact fk (J.jN I.ok) hN hi hn λs5 J5=>⟨_,H',J5,q⟩
  |cont=>
   obtain ⟨σ',H',J,q⟩:=h4;exact fk (J.jN I.ok) hN hi hn λs5 J5=>⟨_,H',J5,q⟩
  |ret u=>
   obtain ⟨v,σ',H',J,r,q⟩:=h4;exact fk (J.jN I.ok) hN hi hn λs5 J5=>⟨v,_,H',J5,r,q⟩
end
end L2
namespace L2
open PySem PySem.Spec PyProof.Rows
def zX:bootBuiltins "isinstance"=some (.builtin "isinstance"):=by decide+kernel
section
variable {X:Cx}
abbrev IJ (K:W.Frag):V->V->Hp->VK->Prop:=λx y H Q=>∃ p xs i v,x=.ref p/\y=.int i/\bc K H p xs/\0<=i/\xs[i.toNat]? =some v/\Q v H
def zh:He X (IJ X.K):=by
 intro Y s U H o i ov iv Q I ro ri h;obtain ⟨p,xs,k,z,rfl,rfl,hq,h0,he,q⟩:=h;cases ro;obtain ⟨t,rfl⟩:=ri;obtain ⟨its,r,pl,hz⟩:=I.list hq;obtain ⟨w,ew,rw'⟩:=r.get he;have hl:k.toNat<xs.length:=(sK.mp he).1;have hn:=gb;exact wpAny_getItem_list pl.isList h0 nofun (by simpa using ew) ⟨z,H,I,rw',q⟩
def jK {xs:List V}{us:List Value}(r:Vals xs us){j:Nat}(h:j<us.toArray.size):∃ x,xs[j]? =some x/\RelV x (us.toArray[j]):=by
 have hl:=r.length;have hj:j<us.length:=by simpa using h
 have e:xs[j]? =some xs[j]:=li nofun;obtain ⟨u,h1,h2⟩:=r.get e;refine ⟨_,e,?_⟩;rw[li hj] at h1;cases h1;simpa using h2
end
section
variable {U:St}{H:Hp}{Q:VK}{D:Ends}{K:W.Frag}
abbrev vC (x:V)(H:Hp)(R:Bool->Hp->Prop):Prop:=∃ k,x=.bl k/\R k H
def ki {α:Type}{xs:List α}{i:Int}(h0:0<=i)(h1:i<xs.length):∃ v,j7 xs i=some v/\v ∈ xs:=by
 obtain ⟨n,rfl⟩:=sn h0;have hn:n<xs.length:=by omega
 exact ⟨xs[n],dv (li hn),List.getElem_mem hn⟩
end
section
variable {K:W.Frag}{g:TG}{tb:TS}{D:Ends}{U:St}{H:Hp}{tl:TE}{ta:TA}
end
def fits {n:Nat}(h:n<=1000):n<=bn:=Nat.le_of_lt (cD h)
section
variable {X:Cx}{H:Hp}{Q:VK}
end
section
variable {K:W.Frag}
end
section
variable {H H':Hp}{h c p:Addr}{m n:Int}{o:HO}
end
def Jm (ns:List Int)(h:ns.length<=63):gj (ns.map V.int) none (some 63)=ns.map V.int:=by
 have e1:HT.qR (ns.map V.int).length 0 none=0:=rfl;have e2:HT.qR (ns.map V.int).length (ns.map V.int).length (some 63)=(ns.map V.int).length:=by
  show (if (63:Int)<0 then ((63:Int)+((ns.map V.int).length:Int)).toNat else min (63:Int).toNat (ns.map V.int).length)=(ns.map V.int).length;rw[if_neg (by decide),ci];show min 63 ns.length=ns.length
  omega
 unfold gj;rw[e1,e2,drop_zero,Nat.sub_zero,List.take_length]
variable {ns:List Int}
def tm {i:Nat}{x:V}(h:(ns.map V.int)[i]? =some x):∃ z,x=V.int z:=by
 rw[io] at h;cases e:ns[i]? with
 |none=>rw[e] at h;cases h
 |some z=>rw[e] at h;exact ⟨z,(Option.some.inj h).symm⟩
def x8 {i:Int}(h0:0<=i)(h1:i<ns.length):∃ z,j7 (ns.map V.int) i=some (.int z):=by
 obtain ⟨v,a,m⟩:=ki (xs:=ns.map V.int) h0 (by rw[ci];exact h1);obtain ⟨z,_,rfl⟩:=List.mem_map.mp m;exact ⟨z,a⟩
section
variable {H:Hp}{Q:VK}
end
section
variable {X:Cx}
end
variable {A:Around}{E:M6}{s:Shared}
def Eg {α:Type}{t:Sem α}{Q Q':α->Shared->Prop}{M:Model}(h:wpAny M A t Q (λ_ _=>False) s) (hQ:∀ a s,Q a s->Q' a s):wpAny M A t Q' E s:=wpAny_mono h hQ λ_ _ x=>x.elim
abbrev fQ (X:Cx)(scope:Scope)(cl:List (Str×Addr))(N:List Str)(s:Shared)(H:Hp)(fp:List Addr):Cx:=
 { X with N:=N,s₀:=s,H₀:=H,env:=compEnvC scope cl s.heap.objs.size X.env,outer:=X.stack,stack:=X.stack,ex:=fp,fn:=λ_=>false,pn:=[],xe:=λ_ _=>False }
structure bC (X:Cx) (scope:Scope) (cl:List (Str×Addr)) (xs:List Str) (fr:List Str) (sel:List Nat):Prop where
 clos:closureFor scope X.env=pure cl
 sub:∀ y c,cl.lookup y=some c->X.env.cells.lookup y=some c
 has:∀ y,((relabel scope X.env).names.lookup y=some .cell\/(relabel scope X.env).names.lookup y=some .free)->∃ c,cl.lookup y=some c
 kind:scope.kind=.function
 nocell:∀ y ∈ scope.names,y.2≠.cell
 names:∀ y ∈ scope.names,y.2=.local->scope.names.lookup y.1=some .local
 own:∀ x ∈ xs,scope.names.lookup x=some .local
 len:sel.length=fr.length
 out:∀ (j:Nat) (y:Str),fr[j]? =some y->∃ i,sel[j]? =some i/\X.N[i]? =some y/\X.env.scope.names.lookup y=some .cell/\(relabel scope X.env).names.lookup y=some .cell
 nd:(xs++fr).Nodup
abbrev fD (U:St)(sel:List Nat):St:=sel.map λi=>U.getD i none
abbrev LC (te:TE)(J:It)(σ₀:St)(H1:Hp)(Q:VK):Prop:=∀ D,H1 D=none->∃ W:Nat->Nat->St->Hp->Prop,(∃ m,W 0 m σ₀ (upd H1 D (.lst [])))/\∀ i m σ' H',W i m σ' H'->
 (J.stop i H'/\Q (.ref D) H')\/(J.go i H'/\∃ N:St->Hp->Prop,(∀ σ2 H2,N σ2 H2->∃ m',m'<m/\W (i+1) m' σ2 H2)/\
  ∀ x H'',J.yld i H' x H''->te (σ'.set 0 (some x)) H'' λv H3=>∃ zs,H3 D=some (.lst zs)/\zs.length<bn/\N (σ'.set 0 (some x)) (upd H3 D (.lst (zs++[v]))))
abbrev gate (env:Env):List Expr->Sem Bool
 | []=>pure true
 |c::_=>isTrue c env (eval c env)
variable {ifs:List Expr}{scope:Scope}{pos:Pos}
def uc {M:Model}{elt target iter:Expr}{it acc:Value}{env:Env}{Q:PySem.Fin->Shared->Prop}(hi:ifs.length<=1)
  (h:wpAny M A (pyNext it) (λr s1=>match r with
   |none=>Q (.done .next) s1
   |some v=>wpAny M A (letOwnedTupleGo target it v) (λ_ s2=>wpAny M A (assign target env v) (λ_ s3=>wpAny M A (gate env ifs) (λok s4=>
    (ok=true->wpAny M A (eval elt env) (λx s5=>wpAny M A (call (.builtin "list.append") [acc,x]) (λ_ s6=>wpAny M A (again (.compLoop (.ListComp elt [⟨target,iter,ifs,0⟩] scope pos) 0 it acc env)) Q E s6) E s5) E s4)/\
    (ok=false->wpAny M A (again (.compLoop (.ListComp elt [⟨target,iter,ifs,0⟩] scope pos) 0 it acc env)) Q E s4)) E s3) E s2) E s1) E s):
  wpAny M A (compTurn (.ListComp elt [⟨target,iter,ifs,0⟩] scope pos) 0 it acc env) Q E s:=by
 have key:∀ {g:Sem Bool}{K:Sem PySem.Fin}{s:Shared},wpAny M A g (λok s4=>
    (ok=true->wpAny M A (eval elt env) (λx s5=>wpAny M A (call (.builtin "list.append") [acc,x]) (λ_ s6=>wpAny M A K Q E s6) E s5) E s4)/\
    (ok=false->wpAny M A K Q E s4)) E s->wpAny M A (g >>= λok=>if ok=true then (eval elt env >>= λx=>call (.builtin "list.append") [acc,x] >>= λ_=>pure ()) >>= λ_=>K else K) Q E s:=λ{g K s} h=>by
  refine ad (wpAny_mono h (λok s4 h4=>?_) λ_ _ e=>e);cases ok with
  |false=>exact h4.2 rfl
  |true=>exact ad (ad (wpAny_mono (h4.1 rfl) (λx s5 h5=>ad (wpAny_mono h5 (λ_ s6 h6=>am h6) λ_ _ e=>e)) λ_ _ e=>e))
 match ifs,hi with
 | [],_=>
  rw[compTurn_list1];refine ad (wpAny_standAt (ad (wpAny_mono h (λr s1 h1=>?_) λ_ _ e=>e)));cases r with
  |none=>exact am h1
  |some v=>
   refine ad (wpAny_mono h1 (λ_ s2 h2=>ad (wpAny_mono h2 (λ_ s3 h3=>?_) λ_ _ e=>e)) λ_ _ e=>e);exact key (g:=pure true) h3
 | [c],_=>
  unfold compTurn;simp only[List.getElem?_cons_zero,List.getElem?_cons_succ,List.getElem?_nil];dsimp only[forIn,List.forIn',List.forIn'.loop,forIn'];rw[if_neg (by decide),if_neg (by decide)];refine ad (wpAny_standAt (ad (wpAny_mono h (λr s1 h1=>?_) λ_ _ e=>e)));cases r with
  |none=>exact am h1
  |some v=>
   refine ad (wpAny_mono h1 (λ_ s2 h2=>ad (wpAny_mono h2 (λ_ s3 h3=>?_) λ_ _ e=>e)) λ_ _ e=>e);refine key ?_;rw[if_pos rfl];refine ad (ad (wpAny_mono h3 (λok s4 h4=>am ?_) λ_ _ e=>e));exact am h4
abbrev LCg (tg:TG)(tc:TT)(te:TE)(J:It)(σ₀:St)(H1:Hp)(Q:VK):Prop:=∀ D,H1 D=none->∃ W:Nat->Nat->St->Hp->Prop,(∃ m,W 0 m σ₀ (upd H1 D (.lst [])))/\∀ i m σ' H',W i m σ' H'->
 (J.stop i H'/\Q (.ref D) H')\/(J.go i H'/\∃ N:St->Hp->Prop,(∀ σ2 H2,N σ2 H2->∃ m',m'<m/\W (i+1) m' σ2 H2)/\
  ∀ x H'',J.yld i H' x H''->tg x σ' H'' λσ2 H2=>tc σ2 H2 λb H3=>(b=true->te σ2 H3 λv H4=>∃ zs,H4 D=some (.lst zs)/\zs.length<bn/\N σ2 (upd H4 D (.lst (zs++[v]))))/\(b=false->N σ2 H3))
abbrev yes:TT:=λ_ H Q=>Q true H
variable {te:TE}
def LC.g {J:It}{σ₀:St}{H1:Hp}{Q:VK}(h:LC te J σ₀ H1 Q):LCg (gX 0) yes te J σ₀ H1 Q:=λD hD=>by
 obtain ⟨W,w0,turn⟩:=h D hD;refine ⟨W,w0,λi m σ' H' w=>?_⟩;rcases turn i m σ' H' w with z|⟨go,N,hN,step⟩
 ·exact .inl z
 ·exact .inr ⟨go,N,hN,λx H'' y=>⟨λ_=>step x H'' y,λe=>nomatch e⟩⟩
abbrev Kr (X:Cx)(ifs:List Expr)(tc:TT):Prop:=ifs.length<=1/\∀ (Y:M7) (s:Shared) (U:St) (H:Hp) (Q:Bool->Hp->Prop),Inv X Y U H s->tc U H Q->wpAny (model X.prog X.w) X.A (gate X.env ifs) (TP X Y U Q) X.xe s
variable {X:Cx}
def jJ:Kr X [] yes:=⟨Nat.zero_le _,λY s U H Q I q=>am ⟨H,I,q⟩⟩
def t9 {c:Expr}{tc:TT}(h:PT X c tc):Kr X [c] tc:=⟨pi _,h⟩
abbrev rF (xs:List Str):St:=xs.map λ_=>none
abbrev Mg (wi:TI)(te:TE)(sel:List Nat):TE:=λU H Q=>wi U H λJ H1=>LC te J (none::fD U sel) H1 Q
abbrev JQ (wi:TI)(tg:TG)(tc:TT)(te:TE)(xs:List Str)(sel:List Nat):TE:=λU H Q=>wi U H λJ H1=>LCg tg tc te J (rF xs++fD U sel) H1 Q
variable {cl:List (Str×Addr)}{xs fr:List Str}{sel:List Nat}{fp:List Addr}
section
variable {X:Cx}
def Un.sameBut {fs ex:List Addr}{H H':Hp}{h h1 h2:Heap}{C:Addr}(u:Un fs ex H H' h h1)(hs:Heap.SameBut C h1 h2)(hC:h.objs.size<=C):Un fs ex H H' h h2:=by
 have ne:∀ b o,h.get? b=some o->b≠C:=λb o e=>pc (nw (u8 e) hC)
 refine ⟨λb o e n hb hx=>(hs.2 b (ne b o e)).trans (u.keep b o e n hb hx),λb o e n hb hx=>?_,u.free,λb o e hx=>?_,u.tups,u.frzs,u.tbls⟩
 ·obtain ⟨sl,q⟩:=u.slot b o e n hb hx;exact ⟨sl,(hs.2 b (ne b o e)).trans q⟩
 ·obtain ⟨o',q⟩:=u.there b o e hx;exact ⟨o',(hs.2 b (ne b o e)).trans q⟩
def qY {Y:M7}{U:St}{H:Hp}{h':Heap}{tk:Nat}{m':M8}
  (S:bC X scope cl xs fr sel) (I:Inv X Y U H s) (f2:∀ b ∈ fp,iM X Y H b) (fo:∀ b ∈ fp,b<s.heap.objs.size) (hns:h'.Ns s.heap.objs.size m') (keep:∀ b o,s.heap.get? b=some o->h'.get? b=some o):
  Inv (fQ X scope cl (xs++fr) s H fp) (X.pn++Y) (rF xs++fD U sel) H { s with heap:=h',toks:=tk }:=by
 have stk:∀ b,b≠X.env.locals->b ∉ X.fs->b ∉ n6 X.stack:=λb h1 h2 hb=>(lw.mp (I.iP b hb)).elim h1 h2
 refine ⟨⟨I.ok.mod,S.kind,I.ok.glob,I.ok.blt,pi _,λy z c h1 h2=>I.ok.inj y z c (S.sub y c h1) (S.sub z c h2),λy hy=>S.has y hy,(λy c h=>nomatch h),I.ok.hd,I.ok.frames,.inl rfl,λb hb=>⟨pc (fo b hb),λy c h=>(f2 b hb).2.2.2.2.1 y c (S.sub y c h)⟩,I.bs,
  Nat.le_trans I.ok.bsz I.sz,λb o e hb=>?_,λb hb=>stk b (f2 b hb).2.1 (f2 b hb).2.2.1,I.stack,I.nO⟩,
  rfl,I.bare,Un.kept keep,⟨m',hns,λi y v e1 e2 e3=>?_⟩,λy c h=>?_,I.hok.fresh (pi _),λy c h=>I.freeC y c (S.sub y c h),λp hp=>?_,I.hok.kept keep,?_⟩
 ·rcases (f2 b hb).2.2.2.1 with z|z
  ·exact I.ok.noex b o e z
  ·exact absurd (nw (nw (u8 e) I.ok.bsz) z) (Nat.lt_irrefl _)
 ·have hln:(rF xs).length=xs.length:=ci ..
  by_cases hlt:i<xs.length
  ·rw[getElem?_append_left (by rw[hln];exact hlt)] at e2;unfold rF at e2;rw[io,li hlt] at e2;cases e2
  ·obtain ⟨j,rfl⟩:∃ j,i=xs.length+j:=⟨i-xs.length,by omega⟩;have e1':fr[j]? =some y:=by
    have e1:(xs++fr)[xs.length+j]? =some y:=e1;rw[getElem?_append_right nofun,show xs.length+j-xs.length=j by omega] at e1;exact e1
   obtain ⟨i,hi,hN,k1,k2⟩:=S.out j y e1';have e2':(fD U sel)[j]? =some (some v):=by
    rw[getElem?_append_right (by rw[hln];omega),hln,show xs.length+j-xs.length=j by omega] at e2;exact e2
   have e4:U[i]? =some (some v):=by
    unfold fD at e2';rw[io,hi] at e2';have e5:U.getD i none=some v:=Option.some.inj e2';rw[List.getD_eq_getElem?_getD] at e5;cases e6:U[i]? with
    |none=>rw[e6] at e5;cases e5
    |some z=>rw[e6] at e5;exact congrArg some e5
   obtain ⟨m,hn,hl⟩:=I.loc;obtain ⟨u,r,l⟩:=hl i y v hN e4 (.inr (.inl k1));refine ⟨u,r,.inr ⟨.inl k2,?_⟩⟩;rcases l with ⟨hk,_⟩|⟨_,c,hc,o,ho,hd⟩
   ·have hk':X.env.scope.names.lookup y=some .local:=hk;rw[k1] at hk';cases hk'
   ·obtain ⟨c',hc'⟩:=S.has y (.inl k2);have:=(S.sub y c' hc').symm.trans hc;cases this;exact ⟨c,hc',o,keep c o ho,hd⟩
 ·obtain ⟨v,o,ho,hd⟩:=I.cell y c (S.sub y c h);exact ⟨v,o,keep c o ho,hd⟩
 ·obtain ⟨e,n,ne,nf,d⟩:=I.pin p (by simpa [fQ] using hp);exact ⟨keep p.1 p.2 e,n,pc (u8 e),stk p.1 ne nf,d⟩
 ·show (rF xs++fD U sel).length=(xs++fr).length;unfold fD rF;simp[S.len]
def iQ {elt iter tgt:Expr}{wi:TI}{tg:TG}{tc:TT}(hc:X.calm=true)(S:bC X scope cl xs fr sel)(hi:PI X tgt iter wi)
  (hg:∀ (s:Shared) (H:Hp) (fp:List Addr),PG (fQ X scope cl (xs++fr) s H fp) tgt tg) (ht:∀ (s:Shared) (H:Hp) (fp:List Addr),Kr (fQ X scope cl (xs++fr) s H fp) ifs tc)
  (he:∀ (s:Shared) (H:Hp) (fp:List Addr),PE (fQ X scope cl (xs++fr) s H fp) elt te) (hs:∀ x,foldedSetIterable iter X.env x=pure x):PE X (.ListComp elt [⟨tgt,iter,ifs,0⟩] scope pos) (JQ wi tg tc te xs sel):=by
 intro Y s U H Q I h;rw[eval_ListComp];refine wpAny_comprehension_free (use:=none) rfl hs S.clos S.kind S.names ?_;refine ax (hi Y s U H _ I h) λv s1 h1=>ax h1 λitv s2 h2=>?_
 obtain ⟨it,fp,tn,J,H2,e,I2,T,pk,f2,h2⟩:=h2;subst e;refine wpAny_newObj_type ?_;have hD:H2 s2.heap.objs.size=none:=I2.hok.fresh (pi _);have I3:Inv X Y U (upd H2 s2.heap.objs.size (.lst [])) { s2 with heap:=s2.heap.push { cls:=.type "list",dict:=none,data:=.seq ([]:List Value).toArray } }:=
  I2.laid (t':=s2.toks) (λb u e=>tz _ e) (pi _) ⟨Nat.zero_le _,[],0,.nil,ul _ rfl⟩
 have fo2:∀ b ∈ fp,b<s2.heap.objs.size:=λb hb=>by
  obtain ⟨o,ho,_⟩:=T.obj _ _ pk b hb;exact u8 ho
 have f3:∀ b ∈ fp,iM X Y (upd H2 s2.heap.objs.size (.lst [])) b:=λb hb=>⟨by rw[ag (pc (fo2 b hb))];exact (f2 b hb).1,(f2 b hb).2⟩
 have st3:tn 0 (s2.heap.push { cls:=.type "list",dict:=none,data:=.seq ([]:List Value).toArray }):=T.keep _ _ _ pk λb hb o e=>tz _ e
 have fo3:∀ b ∈ fp,b<(s2.heap.push { cls:=.type "list",dict:=none,data:=.seq ([]:List Value).toArray }).objs.size:=λb hb=>by
  rw[Heap.size_push];exact Nat.lt_succ_of_lt (fo2 b hb)
 obtain ⟨W,⟨m0,w0⟩,turn⟩:=h2 _ hD;generalize s2.heap.objs.size=D at*;generalize hs3:({ s2 with heap:=s2.heap.push { cls:=.type "list",dict:=none,data:=.seq ([]:List Value).toArray } }:Shared)=s3 at*;have st3':tn 0 s3.heap:=by rw[<-hs3];exact st3
 have fo3':∀ b ∈ fp,b<s3.heap.objs.size:=by rw[<-hs3];exact fo3
 refine wpAny_newFunctionEnv S.nocell (by intro y hy;simp at hy) (λh' hns hsb=>?_) S.kind;have keep:∀ b o,s3.heap.get? b=some o->h'.get? b=some o:=λb o e=>(hsb.2 b (pc (u8 e))).trans (tz _ e)
 have I4:=qY (tk:=s3.toks+([]:List (Str×Value)).length) S I3 f3 fo3' hns keep;have st4:tn 0 h':=T.keep _ _ _ st3' λb hb o e=>keep b o e
 have stat:∀ {H':Hp},(∀ b ∈ fp,H' b=none)->∀ b ∈ fp,iM (fQ X scope cl (xs++fr) s3 (upd H2 D (.lst [])) fp) (X.pn++Y) H' b:=λ{H'} hn b hb=>
  ⟨hn b hb,pc (fo3' b hb),λz=>(lw.mp (I3.iP b z)).elim (f3 b hb).2.1 (f3 b hb).2.2.1,.inl hb,λy c hy=>(f3 b hb).2.2.2.2.1 y c (S.sub y c hy),λp hp=>(f3 b hb).2.2.2.2.2 p (by simpa [fQ] using hp)⟩
 have loop:codeAny (model X.prog X.w) X.A (.compLoop (.ListComp elt [⟨tgt,iter,ifs,0⟩] scope pos) 0 (.ref it) (.ref D) (compEnvC scope cl s3.heap.objs.size X.env))
   (compPost (model X.prog X.w) X.A X.xe none (EP X Y U Q) (.ref D) s3.heap.objs.size) { s3 with heap:=h',toks:=s3.toks+([]:List (Str×Value)).length }:=by
  refine codeAny_loop rfl (λn s'=>∃ i σ' H',Inv (fQ X scope cl (xs++fr) s3 (upd H2 D (.lst [])) fp) (X.pn++Y) σ' H' s'/\tn i s'.heap/\(∀ b ∈ fp,H' b=none)/\W i n σ' H') (λn s5 hI=>?_) m0 ⟨0,_,_,I4,st4,λb hb=>(f3 b hb).1,w0⟩;show wpAny _ _ ((compTurn (.ListComp elt [⟨tgt,iter,ifs,0⟩] scope pos) 0 (.ref it) (.ref D) (compEnvC scope cl s3.heap.objs.size X.env)).onRaise (λx=>do noteFrame x (compEnvC scope cl s3.heap.objs.size X.env);theTreesLotGoes x)) _ _ s5;refine wpAny_noted ?_;refine uc (ht s3 (upd H2 D (.lst [])) fp).1 ?_;obtain ⟨i,σ5,H5,I5,st5,fr5,w5⟩:=hI;rcases turn i n σ5 H5 w5 with ⟨stop,q⟩|⟨go,Nn,hN,step⟩
  ·refine ax (T.done (fQ X scope cl (xs++fr) s3 (upd H2 D (.lst [])) fp) rfl rfl rfl hc i _ s5 σ5 H5 _ I5 (stat fr5) st5 stop) λr s6 ⟨hr,I6⟩=>?_
   subst hr;obtain ⟨m,hn,_⟩:=I6.loc;refine ⟨m,hn,λh'' hs''=>⟨.ref D,H5,I3.zu (ch:=fp) I6.os (I6.base.sameBut hs'' (pi _)) (λb ob e=>?_) I6.bare λb hb=>⟨(f3 b hb).2.2.2.1,(f3 b hb).2.1,(f3 b hb).2.2.2.2.1,(f3 b hb).2.2.2.2.2⟩,rfl,q⟩⟩;refine (I6.hok b ob e).jD (λc w' hc' q'=>(hs''.2 c ?_).trans q') (λ_ q'=>q') λ_ _ q'=>q'
   have fC:H5 s3.heap.objs.size=none:=I6.free;intro z;rcases hc' with z2|z2
   ·rw[z2] at z;rw[z,fC] at e;cases e
   ·rw[z,fC] at z2;cases z2
  ·have fin:∀ {σ8:St}{H10:Hp}{s10:Shared},Inv (fQ X scope cl (xs++fr) s3 (upd H2 D (.lst [])) fp) (X.pn++Y) σ8 H10 s10/\tn (i+1) s10.heap/\(∀ b ∈ fp,H10 b=none)->Nn σ8 H10->∃ m',m'<n/\∃ i σ' H',Inv (fQ X scope cl (xs++fr) s3 (upd H2 D (.lst [])) fp) (X.pn++Y) σ' H' s10/\tn i s10.heap/\(∀ b ∈ fp,H' b=none)/\W i m' σ' H':=λ⟨I,t,f⟩ nn=>by
    obtain ⟨m',hm,w10⟩:=hN _ _ nn;exact ⟨m',hm,i+1,_,_,I,t,f,w10⟩
   refine ax (T.item (fQ X scope cl (xs++fr) s3 (upd H2 D (.lst [])) fp) rfl rfl rfl hc i _ s5 σ5 H5 _ I5 (stat fr5) st5 go) λr s6 ⟨u,hr,h6⟩=>?_
   subst hr;refine ax h6 λ_ s7 ⟨xv,H7,I7,r7,y7,st7,fr7⟩=>?_
   have I7':=I7.pinned (stat fr7) (T.obj _ _ st7);refine Eg (hg s3 _ fp _ s7 σ5 H7 xv u _ I7' r7 (step xv _ y7)) λ_ s8 ⟨σ8,H8,I8,q8⟩=>?_
   refine Eg ((ht s3 _ fp).2 _ s8 σ8 H8 _ I8 q8) λok s9 ⟨H9,I9,q9⟩=>?_
   have back:∀ {H10:Hp}{s10:Shared},Inv (fQ X scope cl (xs++fr) s3 (upd H2 D (.lst [])) fp) _ σ8 H10 s10->Inv (fQ X scope cl (xs++fr) s3 (upd H2 D (.lst [])) fp) (X.pn++Y) σ8 H10 s10/\tn (i+1) s10.heap/\(∀ b ∈ fp,H10 b=none):=λ{H10 s10} I10=>⟨I10.eZ,T.keep _ _ _ st7 λb hb o e=>(I10.pin (b,o) (im _ (im _ (bS hb e)))).1,λb hb=>by
    obtain ⟨o,e,d⟩:=T.obj _ _ st7 b hb;exact (I10.pin (b,o) (im _ (im _ (bS hb e)))).2.1⟩
   refine ⟨λek=>?_,λek=>am ⟨rfl,fin (back I9) (q9.2 ek)⟩⟩;refine Eg (he s3 _ fp _ s9 _ _ _ I9 (q9.1 ek)) λuv s10 ⟨vv,H10,I10,r10,zs,hz,hzl,n10⟩=>?_
   refine Eg (iy (X:=fQ X scope cl (xs++fr) s3 (upd H2 D (.lst [])) fp) _ s10 _ H10 (.ref D) [vv] (.ref D) [uv] (λ_ H'=>H'=upd H10 D (.lst (zs++[vv]))) I10 rfl (.cons r10 .nil) ⟨D,zs,vv,rfl,rfl,hz,hzl,rfl⟩) λ_ s11 ⟨_,H11,I11,_,e11⟩=>?_
   subst e11;exact am ⟨rfl,fin (back I11) n10⟩
 exact codeAny_compStart_list loop (T.self _ 0 _ _ _ st4 loop)
def nS {x:Str}{px:Pos}{H:Hp}(S:bC X scope cl [x] fr sel):PG (fQ X scope cl ([x]++fr) s H fp) (.Name x px) (gX 0):=gx S.nd rfl (.inl (lookup_relabel_local (S.own x (lv ..)))) (.inr (lookup_relabel_local (S.own x (lv ..))))
abbrev MB (wi:TI):TI:=λU H R=>∃ R0:It->Hp->Prop,wi U H R0/\∀ J H,R0 J H->R J H
def PI.up {tg iter:Expr}{wi:TI}(h:PI X tg iter wi):PI X tg iter (MB wi):=λY s U H R I ⟨R0,q,m⟩=>
 ax (h Y s U H R0 I q) λv s1 h1=>wpAny_mono h1 (λitv s2 ⟨it,fp,tn,J,H',e,I,T,t0,f,r⟩=>⟨it,fp,tn,J,H',e,I,T,t0,f,m _ _ r⟩) λ_ _ e=>e
def AN {elt iter:Expr}{x:Str}{px:Pos}{wi:TI}(hc:X.calm=true)(S:bC X scope cl [x] fr sel)(hi:PI X (.Name x px) iter wi)
  (he:∀ (s:Shared) (H:Hp) (fp:List Addr),PE (fQ X scope cl (x::fr) s H fp) elt te) (hs:∀ x,foldedSetIterable iter X.env x=pure x):PE X (.ListComp elt [⟨.Name x px,iter,[],0⟩] scope pos) (Mg wi te sel):=λY s U H Q I h=>
 iQ (tg:=gX 0) hc S hi.up (λs H fp=>nS S) (λ_ _ _=>jJ) he hs Y s U H Q I ⟨_,h,λ_ _ q=>q.g⟩
end
section
variable {U:St}{H:Hp}{Q:VK}{te tl:TE}{ta:TA}{sel:List Nat}{σ₀ rest:St}{K:W.Frag}
end
def dz {env:Env}:∀ {names:List (Str×NameKind)}{y:Str}{k':NameKind},(names.map λ(n,k)=>if (k ==NameKind.free&&env.scope.kind ==.function&&env.kindOf n ==some .cell) then (n,NameKind.cell) else (n,k)).lookup y=some k'->∃ k,(y,k) ∈ names/\(k'=k\/(k=.free/\k'=.cell))
 | [],_,_,h=>by simp at h
 |(n,k)::r,y,k',h=>by
  rw[map_cons,lookup_cons] at h
  by_cases hc:(k ==NameKind.free&&env.scope.kind ==.function&&env.kindOf n ==some .cell)=true
  ·simp only[hc,if_true] at h
   by_cases e:y=n
   ·subst e;simp at h;simp at hc;exact ⟨k,lv,.inr ⟨hc.1.1,h.symm⟩⟩
   ·rw[show (y ==n)=false from beq_eq_false_iff_ne.mpr e] at h;obtain ⟨k2,m,q⟩:=dz (env:=env) h;exact ⟨k2,dL _ m,q⟩
  ·rw[Bool.not_eq_true] at hc;simp only[hc,Bool.false_eq_true,if_false] at h
   by_cases e:y=n
   ·subst e;simp at h;exact ⟨k,lv,.inl h.symm⟩
   ·simp only[show (y ==n)=false from beq_eq_false_iff_ne.mpr e] at h;obtain ⟨k2,m,q⟩:=dz (env:=env) h;exact ⟨k2,dL _ m,q⟩
section
variable {K:W.Frag}
end
section
variable {K:W.Frag}{H:Hp}
end
section
variable {U:St}{H:Hp}{Q:VK}
end
abbrev notStar:Expr->Bool
 | .Starred ..=>false
 |_=>true
variable {es:List Expr}
def ae {e:Expr}{env:Env}(h:notStar e=true):bm (e::es) env=(false,eval e env)::bm es env:=by
 cases e<;>first|rfl|cases h
def cU {e:Expr}{t:TA}(ha:PE X e te)(hr:PA X es t)(h:notStar e=true:=by rfl):PA X (e::es) (EI te t):=Dw ha hr (ae h)
section
variable {X:Cx}{Y:M7}{U:St}{H:Hp}{s:Shared}{h':Heap}
def Inv.g7 {t':Nat}{ch:List Addr}{a:Addr}{o:HO}(I:Inv X Y U H s)(k:∀ b u,b ∉ ch->s.heap.get? b=some u->h'.get? b=some u) (hf:∀ b ∈ ch,iM X Y H b)
  (hp:s.heap.objs.size<=a) (new:ay X.prog X.w (upd H a o) h' a o):Inv X Y U (upd H a o) { s with heap:=h',toks:=t' }:=by
 have hn:H a=none:=I.hok.fresh hp;have nch:∀ b u,H b=some u->b ∉ ch:=λb u e z=>by rw[(hf b z).1] at e;cases e
 refine I.step (g':=s.gens) (d':=s.drawn) (ch:=ch) (λb hb=>?_) (λb o _ _ hc e _=>k b o hc e) (λb o _ _ hc e _=>⟨o.slots,k b o hc e⟩) (λb o hc e n=>?_)
  (λb o hc e=>⟨o,k b o hc e⟩) (λb xs e=>?_) (λb ob u e=>?_) (λb ps e=>?_) (λm hm=>?_) (λb u e=>?_) I.bare
 ·obtain ⟨_,f1,_,f3,f4,f5⟩:=hf b hb;exact ⟨f3,f1,f4,f5⟩
 ·rw[ag (pc (nw (u8 e) hp))];exact n
 ·rw[ag (aP e hn)];exact e
 ·rw[ag (aP e hn)];exact e
 ·exact ⟨#[],by rw[ag (aP e hn),e];simp⟩
 ·obtain ⟨o,es,ep,ho,r⟩:=hm;exact ⟨o,es,ep,k _ o (λz=>(hf _ z).2.1 rfl) ho,r⟩
 ·by_cases hb:b=a
  ·subst hb;rw[av] at e;cases e;exact new
  ·rw[ag hb] at e;refine (I.hok b u e).jD (λc v hc q=>k c v ?_ q) (λc q=>by rw[ag (aP q hn)];exact q) λc xs q=>by rw[ag (aP q hn)];exact q
   rcases hc with rfl|hc
   ·exact nch _ _ e
   ·exact nch _ _ hc
end
abbrev Jq (l:Addr):It:=
 ⟨λi H=>∃ xs x,H l=some (.lst xs)/\xs[i]? =some x,λi H x H'=>∃ T y,H T=none/\x=.ref T/\H'=upd H T (.tup [.int i,y])/\∀ xs,H l=some (.lst xs)->xs[i]? =some y,λi H=>∃ xs,H l=some (.lst xs)/\xs.length<=i⟩
variable {elts:List Expr}
def wA {P:Program}{w:World}{K:W.Frag}{k:Nat}(l e it:Addr)(hei:e≠it):
  Turn P w K (.Tuple elts k pos) (Jq l) [e,it] e (λi h=>(∃ old,IsEnum h e it ((i:Nat):Int) old)/\h.IsListIter it l i) where
 mem:=by simp
 obj:=λi h st b hb=>by
  obtain ⟨⟨old,he⟩,hit⟩:=st;rcases lw.mp hb with rfl|hb
  ·exact ⟨_,he,λv z=>by
    have z':Data.fields _=Data.cell v:=z;cases z'⟩
  ·have e':b=it:=by simpa using hb
   subst e';obtain ⟨o,e,c,d⟩:=hit;exact ⟨o,e,λv z=>by rw[d] at z;cases z⟩
 keep:=λi h h' st k=>by
  obtain ⟨⟨old,he⟩,hit⟩:=st;exact ⟨⟨old,k e (by simp) _ he⟩,hit.at λo q=>k it (by simp) o q⟩
 item:=by
  intro X hP hw hK hc i Y s U H E I hf st hg;subst hP hw hK;obtain ⟨xs,x,hq,hx⟩:=hg;obtain ⟨⟨old,he⟩,hit⟩:=st;obtain ⟨its,rv,p,hz⟩:=I.list (bc.of hq);obtain ⟨u,hu,ru⟩:=rv.get hx;have heN:H e=none:=(hf e (by simp)).1;have hes:e≠s.heap.objs.size:=pc (u8 he);obtain ⟨oi,hoi,_⟩:=id hit;have his:it≠s.heap.objs.size:=pc (u8 hoi);refine wpAny_pyNext_enum_item he hit p.isList (x:=u) (by simpa using hu) hei λh1 heo hit1 ht1 hz1 hk1=>?_
  have I1:Inv X Y U (upd H s.heap.objs.size (.tup [.int i,x])) { s with heap:=h1,toks:=s.toks+1 }:=
   I.g7 (ch:=[e,it]) (λb o hb q=>hk1 b o (λz=>hb (by simp[z])) (λz=>hb (by simp[z])) q) hf (pi _)
    ⟨fits (ol rfl),[.int i s.toks,u],.cons ⟨_,rfl⟩ (.cons ru .nil),⟨_,ht1,rfl,_,rfl⟩⟩
  refine ⟨_,rfl,wpAny_letOwnedTupleGo_enum heo λh2 he2 hs2=>?_⟩;obtain ⟨f0,f1,f2,f3,f4,f5⟩:=hf e (by simp);have I2:=I1.turned (h':=h2) (t':=s.toks+1) (it:=e) (λb o hb q=>(hs2.2 b hb).trans q) (by rw[ag hes];exact heN) f1 f3 f4 f5;refine ⟨.ref s.heap.objs.size,_,I2,rfl,⟨_,x,I.hok.fresh (pi _),rfl,rfl,λys hy=>?_⟩,⟨⟨_,by simpa using he2⟩,hit1.at λo q=>(hs2.2 it hei.symm).trans q⟩,λb hb=>?_⟩
  ·rw[hq] at hy;cases hy;exact hx
  ·have hb':b≠s.heap.objs.size:=by
    rcases lw.mp hb with rfl|hb
    ·exact hes
    ·have e':b=it:=by simpa using hb
     subst e';exact his
   rw[ag hb'];exact (hf b hb).1
 done:=by
  intro X hP hw hK hc i Y s U H E I hf st hg;subst hP hw hK;obtain ⟨xs,hq,hx⟩:=hg;obtain ⟨⟨old,he⟩,hit⟩:=st;obtain ⟨its,rv,p,hz⟩:=I.list (bc.of hq);obtain ⟨f0,f1,f2,f3,f4,f5⟩:=hf it (by simp);have hl:=rv.length;exact wpAny_pyNext_enum_end (I.ok.hd hc) he hit p.isList (by simp;omega) λh' eb=>⟨rfl,I.turned (t':=s.toks) (λb o hb q=>eb b o hb q) f0 f1 f3 f4 f5⟩
 self:=λ_ _ _ _ _ st h=>by
  obtain ⟨⟨old,he⟩,hit⟩:=st;exact wpAny_pyIter_enum he h
def gy:bootBuiltins "enumerate"=some (.type "enumerate"):=by decide+kernel
abbrev Jz (ta:TA):TI:=λU H R=>ta U H λvs H1=>∃ l,vs=[.ref l]/\(∃ xs,H1 l=some (.lst xs))/\R (Jq l) H1
def B3 {k:Nat}{a:Expr}{ta:TA}{p pos':Pos}(hg:Gl X "enumerate") (hm:X.mg "enumerate"=none) (ha:PA X [a] ta) (hs:bm [a] X.env=[(false,eval a X.env)]:=by rfl):
  PI X (.Tuple elts k pos') (.Call (.Name "enumerate" p) [a] [] pos) (Jz ta):=by
 intro Y s U H R I h;refine Call_ (bN I hg hm gy (PyProof.Rows.callWith_type1 (ax (ha pos Y s U H _ I h) λus s1 ⟨vs,H1,I1,r1,q1⟩=>?_) hs rfl));obtain ⟨l,e,⟨xs,hl⟩,q⟩:=q1;subst e;cases r1 with
 |cons r rr=>
  cases rr;cases r;obtain ⟨z,its,n,r,hlen,e⟩:=I1.qp hl;refine call_enumerate_1 e λh' he hit hsz hk=>?_
  refine wpAny_pyIter_enum he ?_;refine ⟨s1.heap.objs.size+1,[s1.heap.objs.size+1,s1.heap.objs.size],_,_,H1,rfl,I1.kept (t':=s1.toks) hk,wA l _ _ (Nat.succ_ne_self _),⟨⟨_,he⟩,hit⟩,λb hb=>?_,q⟩;have hb':s1.heap.objs.size<=b:=by
   rcases lw.mp hb with rfl|hb
   ·exact Nat.le_succ _
   ·have e':b=s1.heap.objs.size:=by simpa using hb
    exact Nat.le_of_eq e'.symm
  exact I1.qO hb' (I1.hok.fresh hb')
section
variable {g:TG}{tb:TS}{D:Ends}{U:St}{H:Hp}{ta:TA}
end
section
variable {X:Cx}
abbrev Dp:V->List V->Hp->VK->Prop:=λx vs H Q=>∃ l xs i y,x=.ref l/\vs=[.int i,y]/\H l=some (.lst xs)/\0<=i/\i<=xs.length/\xs.length<bn/\Q .non (upd H l (.lst (xs.take i.toNat++y::xs.drop i.toNat)))
def Vals.take':∀ {xs:List V}{us:List Value}(n:Nat),Vals xs us->Vals (xs.take n) (us.take n)
 |_,_,0,_=>by simpa using Paired.nil
 |_,_,n+1,.nil=>.nil
 |_,_,n+1,.cons r t=>.cons r (Vals.take' n t)
def Vals.drop':∀ {xs:List V}{us:List Value}(n:Nat),Vals xs us->Vals (xs.drop n) (us.drop n)
 |_,_,0,r=>r
 |_,_,n+1,.nil=>.nil
 |_,_,n+1,.cons r t=>Vals.drop' n t
def wk:LQ X "list.insert" Dp:=by
 intro Y s U H x vs v us Q I rx rv h;obtain ⟨l,xs,i,y,rfl,rfl,hH,h0,h1,hz,q⟩:=h;cases rx;obtain ⟨u,u2,rfl,ru,ru2⟩:=vals2 rv;obtain ⟨t,rfl⟩:=ru;obtain ⟨z,its,n,r,hl,e⟩:=I.qp hH;have hk:i.toNat<=its.length:=by omega
 have hn:=gb;have hfit:¬ (!Builtin.List.listFitsIndex i)=true:=by
  rw[fitsIndex_both (k:=i) nofun nofun]
  decide
 have hsz:its.toArray.size<=bn:=by rw[ii];omega
 have hmt:=AutoSeq1.list_insert_list_int_val_1 l its.toArray n i t u2 hfit hsz;refine call_meets F.slot_list_insert ⟨_,e,rfl⟩ F.entry_list_insert (F.args_list_insert_3 _ _ _) hmt ⟨e,?_⟩;refine ⟨.non,_,I.FO (its':=its.take i.toNat++u2::its.drop i.toNat) hH e ?_ ?_ ?_,rfl,q⟩
 ·have ek:(if i<0 then (i+(its.toArray.size:Int)).toNat else min i.toNat its.toArray.size)=i.toNat:=by
   rw[if_neg nofun,ii];exact Nat.min_eq_left hk
  show ((its.toArray.extract 0 (if i<0 then (i+(its.toArray.size:Int)).toNat else min i.toNat its.toArray.size)).push u2++its.toArray.extract (if i<0 then (i+(its.toArray.size:Int)).toNat else min i.toNat its.toArray.size))=_;rw[ek];apply Array.ext';simp;exact take_of_length_le (by rw[jp];omega)
 ·exact (Vals.take' i.toNat r).append (.cons ru2 (Vals.drop' i.toNat r))
 ·rw[cr,length_cons,dl,jp]
  omega
end
section
variable {K:W.Frag}{r:V->List V->Hp->VK->Prop}{to:TE}{t:TA}{U:St}{H:Hp}{Q:VK}
end
section
variable {H H1 H2:Hp}{p h c:Addr}{o:HO}{m:Int}
end
section
variable {H H':Hp}{xs ys:List V}{f:Nat->Int×Int}
end
section
variable {X:Cx}{a b c d:Expr}{ta tb tc td:TE}{pos:Pos}
end
section
variable {K:W.Frag}{U:St}{H:Hp}{Q:VK}{ta tb tc td tv:TE}{t:TA}{f m:Str}{D:Ends}{C:Addr}{sp:Sp}{dvs:List V}{E:XK}
end
section
variable {g:TG}{tb:TS}{D:Ends}{U:St}{H:Hp}{ta:TA}
end
section
variable {C:Addr}{H H':Hp}{S D h c:Addr}{rs:List Rec}{r:Rec}
end
section
variable {X:Cx}
end
end L2
namespace L2
end L2
namespace L2
open PySem PySem.Spec PyProof.Rows
section
variable {C:Addr}{H HF:Hp}{S D h c:Addr}{rs:List Rec}{r':Rec}
end
section
variable {X:Cx}
end
structure K4 (K:W.Frag) (C:Addr):Prop where
 ha:W.findIn K (.ref C) "__class__"=some (some (.builtin "object.__class__"))
 hn:W.specialIn K (.builtin "object.__class__") "__get__"=some (some (.builtin "getset_descriptor.__get__"))
 htk:W.takesIn K (.builtin "object.__class__")=some true
 hm:W.mroIn K C (.type "object")=some true
end L2
namespace L2
open PySem PySem.Spec PySem.W PyProof.Rows
abbrev aD (tp:Bool)(h:Heap)(j b:Addr)(k:Nat):Prop:=match tp with
 |true=>h.IsTupleIter j b k
 |false=>h.IsListIter j b k
abbrev aT (tp:Bool)(h:Heap)(b:Addr)(xs:Array Value):Prop:=match tp with
 |true=>h.IsTuple b xs
 |false=>h.IsList b xs
variable {tp:Bool}{h:Heap}{k:Nat}
def aD.to {h':Heap}{j b:Addr}(g:aD tp h j b k)(e:∀ o,h.get? j=some o->h'.get? j=some o):aD tp h' j b k:=by
 cases tp
 ·obtain ⟨o,e1,r⟩:=(show h.IsListIter j b k from g);exact ⟨o,e o e1,r⟩
 ·obtain ⟨o,e1,r⟩:=(show h.IsTupleIter j b k from g);exact ⟨o,e o e1,r⟩
def aT.to {h':Heap}{b:Addr}{xs:Array Value}(g:aT tp h b xs)(e:∀ o,h.get? b=some o->h'.get? b=some o):aT tp h' b xs:=by
 cases tp
 ·obtain ⟨o,e1,r⟩:=(show h.IsList b xs from g);exact ⟨o,e o e1,r⟩
 ·obtain ⟨o,e1,r⟩:=(show h.IsTuple b xs from g);exact ⟨o,e o e1,r⟩
def aD.lt {tp:Bool}{h:Heap}{j b:Addr}{k:Nat}(g:aD tp h j b k):j<h.objs.size:=by
 cases tp
 ·obtain ⟨o,e1,r⟩:=(show h.IsListIter j b k from g);exact u8 e1
 ·obtain ⟨o,e1,r⟩:=(show h.IsTupleIter j b k from g);exact u8 e1
def aT.lt {tp:Bool}{h:Heap}{b:Addr}{xs:Array Value}(g:aT tp h b xs):b<h.objs.size:=by
 cases tp
 ·obtain ⟨o,e1,r⟩:=(show h.IsList b xs from g);exact u8 e1
 ·obtain ⟨o,e1,r⟩:=(show h.IsTuple b xs from g);exact u8 e1
variable {Q:M4}{c:Addr}{T:Int}{fb:Bool}{oT:Obj}{elts:List Expr}{pos:Pos}
section
variable {prog:Program}{w:World}{A:Around}{E:M6}{s:Shared}
def zl {j b:Addr}{xs:Array Value}{x:Value}{Q:M6}(g:s.heap.IsTupleIter j b k)(t:s.heap.IsTuple b xs)(hx:xs[k]? =some x)
  (q:∀ h',h'.IsTupleIter j b (k+1)->Heap.SameBut j s.heap h'->Q x { s with heap:=h' }):wpAny (model prog w) A (Builtin.SmallTypes.nextOf (.ref j)) Q E s:=by
 obtain ⟨o1,e1,c1,d1⟩:=id g;obtain ⟨o2,e2,_,n2,d2⟩:=t;unfold Builtin.SmallTypes.nextOf;refine ad (wpAny_callSpecial?_slot (name:=Str.ofString "__next__") g.typeIs F.slot_tuple_iterator_next (wpAny_call_entry F.slot_tuple_iterator_next g.typeIs F.entry_tuple_iterator_next ?_ (F.args_tuple_iterator_next_1 _)));show wpAny _ _ (field (.ref j) 0 >>= _) _ _ s;refine ad (ap e1 d1 (x:=.ref b) rfl ?_);show wpAny _ _ (if (Value.ref b ==Value.none)=true then _ else _) _ _ s;rw[if_neg (show ¬ ((Value.ref b ==Value.none)=true) from Bool.false_ne_true)];show wpAny _ _ (field (.ref j) 1 >>= _) _ _ s;refine ad (ap e1 d1 (x:=.int k 0) rfl ?_);show wpAny _ _ (seqItems? (.ref b) >>= _) _ _ s;refine ad (wpAny_seqItems e2 d2 ?_);simp only[re,hx];refine ad (wpAny_setField e1 d1 (by simp) (am ⟨x,rfl,am (q _ ?_ (Heap.SameBut.update ..))⟩));refine ⟨_,Heap.get?_update_self _ e1 (Obj.isFreed_of_fields (Obj.data_mapFields d1 _)),(Obj.cls_mapFields ..).trans c1,?_⟩;rw[Obj.data_mapFields d1];simp[rawInt]
def ub {j b:Addr}{xs:Array Value}{Q:M6}(hh:A.handled=none)(g:s.heap.IsTupleIter j b k)(t:s.heap.IsTuple b xs)(hx:xs[k]? =none)
  (q:∀ h' e,Heap.ExtBut j s.heap h'->(∃ o,h'.get? e=some o/\o.cls=.type "StopIteration")->E (.ref e) { s with heap:=h' }):wpAny (model prog w) A (Builtin.SmallTypes.nextOf (.ref j)) Q E s:=by
 obtain ⟨o1,e1,c1,d1⟩:=id g;obtain ⟨o2,e2,_,n2,d2⟩:=t;unfold Builtin.SmallTypes.nextOf;refine ad (wpAny_callSpecial?_slot (name:=Str.ofString "__next__") g.typeIs F.slot_tuple_iterator_next (wpAny_call_entry F.slot_tuple_iterator_next g.typeIs F.entry_tuple_iterator_next ?_ (F.args_tuple_iterator_next_1 _)));show wpAny _ _ (field (.ref j) 0 >>= _) _ _ s;refine ad (ap e1 d1 (x:=.ref b) rfl ?_);show wpAny _ _ (if (Value.ref b ==Value.none)=true then _ else _) _ _ s;rw[if_neg (show ¬ ((Value.ref b ==Value.none)=true) from Bool.false_ne_true)];show wpAny _ _ (field (.ref j) 1 >>= _) _ _ s;refine ad (ap e1 d1 (x:=.int k 0) rfl ?_);show wpAny _ _ (seqItems? (.ref b) >>= _) _ _ s;refine ad (wpAny_seqItems e2 d2 ?_);simp only[re,hx];refine ad (wpAny_rule (ad (wpAny_setField e1 d1 (by simp) ?_)));show wpAny _ _ (newExc (.type "StopIteration") [] >>= _) _ _ _;refine ad ?_;simp only[newExc,newTuple];refine ad (wpAny_newObj_type ?_ (by size_fits));refine ad (m:=firstArgMember _ _) (wpAny_of_eq (a:=Value.none) (by first|rfl|(simp only[firstArgMember];rfl)) ?_);refine wpAny_newObj_type ?_ (by size_fits);simp only[raiseNew];refine ad (wpAny_handled ?_);first|rw[show A.in1.handled=none from hh]|rw[hh]
 refine ad (am (wpAny_throw ?_));exact q _ _ (((Heap.SameBut.update ..).extBut.push _).push _) ⟨_,ul _ rfl,rfl⟩
def cy {j b:Addr}{xs:Array Value}{x:Value}{Q:M6}(g:aD tp s.heap j b k)(t:aT tp s.heap b xs)(hx:xs[k]? =some x)
  (q:∀ h',aD tp h' j b (k+1)->Heap.SameBut j s.heap h'->Q x { s with heap:=h' }):wpAny (model prog w) A (Builtin.SmallTypes.nextOf (.ref j)) Q E s:=by
 cases tp
 ·exact wpAny_nextOf_list_item g t hx q
 ·exact zl g t hx q
def jQ {j b:Addr}{xs:Array Value}{Q:M6}(hh:A.handled=none)(g:aD tp s.heap j b k)(t:aT tp s.heap b xs)(hx:xs[k]? =none)
  (q:∀ h' e,Heap.ExtBut j s.heap h'->(∃ o,h'.get? e=some o/\o.cls=.type "StopIteration")->E (.ref e) { s with heap:=h' }):wpAny (model prog w) A (Builtin.SmallTypes.nextOf (.ref j)) Q E s:=by
 cases tp
 ·exact wpAny_nextOf_list_end hh g t hx q
 ·exact ub hh g t hx q
@[reducible]def aV (h:Heap) (z TI TO:Addr) (f0 f1:Value):Prop:=h.get? z=some { cls:=.type "zip",dict:=none,data:=.fields #[f0,f1,.bool false,.ref TI,.ref TO],slots:=#[] }
variable {z TI TO i1 i2 l1 l2:Addr}{k1 k2:Nat}{tp1 tp2:Bool}{xs ys:Array Value}{x y a b f1:Value}
def uB (D:ZipApart z TI TO i1 i2 l1 l2)(hz:aV s.heap z TI TO .none f1)(hI:IsPair s.heap TI (.ref i1) (.ref i2))(hO:IsPair s.heap TO a b)
  (g1:aD tp1 s.heap i1 l1 k1) (g2:aD tp2 s.heap i2 l2 k2) (t1:aT tp1 s.heap l1 xs) (t2:aT tp2 s.heap l2 ys) (hx:xs[k1]? =some x) (hy:ys[k2]? =some y)
  (q:∀ h',aV h' z TI TO (rawInt s.heap.objs.size) (.bool false)->IsPair h' TO x y->aD tp1 h' i1 l1 (k1+1)->aD tp2 h' i2 l2 (k2+1)->IsPair h' s.heap.objs.size x y->h'.objs.size=s.heap.objs.size+1->
   (∀ c o,c≠z->c≠TO->c≠i1->c≠i2->s.heap.get? c=some o->h'.get? c=some o)->Q (some (.ref s.heap.objs.size)) { s with heap:=h' }):wpAny (model prog w) A (pyNext (.ref z)) Q E s:=by
 have hZ:s.TypeIs (.ref z) "zip":=⟨_,hz,rfl⟩;unfold pyNext;refine ad (wpAny_attempt (wpAny_callSpecial?_slot (name:=Str.ofString "__next__") hZ F.slot_zip_next (wpAny_call_entry F.slot_zip_next hZ F.entry_zip_next ?_ (F.args_zip_next_1 _))));show wpAny _ _ (field (.ref z) 2 >>= _) _ _ _;refine ad (ap (x:=.bool false) hz rfl rfl ?_);show wpAny _ _ (field (.ref z) 3 >>= _) _ _ _;refine ad (ap (x:=.ref TI) hz rfl rfl ?_);refine ad (wpAny_seqItems hI rfl ?_);show wpAny _ _ (Builtin.SmallTypes.ownedTupleIsFree (.ref z) >>= _) _ _ _;refine ad ?_;unfold Builtin.SmallTypes.ownedTupleIsFree;refine ad (ap (x:=.none) hz rfl rfl (am ?_));simp only[if_true];refine ad (wpAny_rule ?_);refine ad (ap (x:=.ref TO) hz rfl rfl ?_);refine ad (wpAny_setField_rec hz (by simp) λp1 z1 b1=>?_)
 replace z1:aV p1 z TI TO .ellipsis f1:=z1
 refine ad ?_;simp only[zipIdx_cons,zipIdx_nil,forIn_cons,forIn_nil];refine ad (ad (wpAny_onRaise ?_));show wpAny _ _ (Builtin.SmallTypes.nextOf (.ref i1) >>= _) _ _ _;refine ad (cy (g1.to λo e=>b1.extBut _ o D.i1z e) (t1.to λo e=>b1.extBut _ o D.l1z e) hx λp2 g1b b2=>am ?_);have hO2:IsPair p2 TO a b:=b2.extBut _ _ D.TOi1 (b1.extBut _ _ D.TOz hO);refine ad (wpAny_seqItems hO2 rfl ?_);refine ad (wpAny_updateSeq_pair hO2 λp3 hO3 b3=>?_)
 replace hO3:IsPair p3 TO x b:=hO3
 refine ad (wpAny_letGo (am ?_));refine ad (ad (wpAny_onRaise ?_));show wpAny _ _ (Builtin.SmallTypes.nextOf (.ref i2) >>= _) _ _ _;refine ad (cy (g2.to λo e=>b3.extBut _ o D.TOi2.symm (b2.extBut _ o D.i12.symm (b1.extBut _ o D.i2z e))) (t2.to λo e=>b3.extBut _ o D.l2TO (b2.extBut _ o D.l2i1 (b1.extBut _ o D.l2z e))) hy λp4 g2b b4=>am ?_);have hO4:IsPair p4 TO x b:=b4.extBut _ _ D.TOi2 hO3;refine ad (wpAny_seqItems hO4 rfl ?_);refine ad (wpAny_updateSeq_pair hO4 λp5 hO5 b5=>?_)
 replace hO5:IsPair p5 TO x y:=hO5
 refine ad (wpAny_letGo (am (am ?_)));refine ad (wpAny_seqItems hO5 rfl ?_);refine ad (wpAny_newTuple ?_);have hsz:p5.objs.size=s.heap.objs.size:=by rw[b5.1,b4.1,b3.1,b2.1,b1.1]
 have z5:aV p5 z TI TO .ellipsis f1:=b5.extBut _ _ D.TOz.symm (b4.extBut _ _ D.i2z.symm (b3.extBut _ _ D.TOz.symm (b2.extBut _ _ D.i1z.symm z1)));have k5:∀ c o,c≠z->c≠TO->c≠i1->c≠i2->s.heap.get? c=some o->p5.get? c=some o:=λc o n1 n2 n3 n4 e=>b5.extBut _ _ n2 (b4.extBut _ _ n4 (b3.extBut _ _ n2 (b2.extBut _ _ n3 (b1.extBut _ _ n1 e))))
 have g15:aD tp1 p5 i1 l1 (k1+1):=g1b.to λo e=>b5.extBut _ o D.TOi1.symm (b4.extBut _ o D.i12 (b3.extBut _ o D.TOi1.symm e))
 have g25:aD tp2 p5 i2 l2 (k2+1):=g2b.to λo e=>b5.extBut _ o D.TOi2.symm e
 have zlt:z<p5.objs.size:=u8 z5;show wpAny _ _ (Builtin.SmallTypes.ownedTupleHandOut (.ref z) (.ref p5.objs.size) >>= _) _ _ _;refine ad ?_;unfold Builtin.SmallTypes.ownedTupleHandOut;have z6:aV (p5.push { cls:=.type "tuple",data:=.seq #[x,y] }) z TI TO .ellipsis f1:=tz _ z5;refine ad (wpAny_setField_rec z6 (by simp) λp7 z7 b7=>?_)
 replace z7:aV p7 z TI TO (rawInt p5.objs.size) f1:=z7
 refine wpAny_setField_rec z7 (by simp) λp8 z8 b8=>?_
 replace z8:aV p8 z TI TO (rawInt p5.objs.size) (.bool false):=z8
 have up:∀ c o,c≠z->p5.get? c=some o->p8.get? c=some o:=λc o n1 e=>b8.extBut _ _ n1 (b7.extBut _ _ n1 (tz _ e))
 have hT:IsPair p8 p5.objs.size x y:=b8.extBut _ _ (Nat.ne_of_gt zlt) (b7.extBut _ _ (Nat.ne_of_gt zlt) (ul _ rfl));have h8:p8.objs.size=p5.objs.size+1:=by rw[b8.1,b7.1,Heap.size_push]
 rw[hsz] at z8 hT h8;refine am ⟨_,rfl,?_⟩;rw[hsz];exact am (q p8 z8 (up _ _ D.TOz hO5) (g15.to λo e=>up _ o D.i1z e) (g25.to λo e=>up _ o D.i2z e) hT h8 λc o n1 n2 n3 n4 e=>up c o n1 (k5 c o n1 n2 n3 n4 e))
def FU {Q:Fin->Shared->Prop}(hh:A.handled=none)(D:ZipApart z TI TO i1 i2 l1 l2)(hz:aV s.heap z TI TO .none f1)(hI:IsPair s.heap TI (.ref i1) (.ref i2))(hO:IsPair s.heap TO a b)
  (g1:aD tp1 s.heap i1 l1 k1) (g2:aD tp2 s.heap i2 l2 k2) (t1:aT tp1 s.heap l1 xs) (t2:aT tp2 s.heap l2 ys) (hx:xs[k1]? =none\/ys[k2]? =none)
  (q:∀ h' e,(∀ c o,c≠z->c≠TO->c≠i1->c≠i2->s.heap.get? c=some o->h'.get? c=some o)->(∃ o,h'.get? e=some o/\o.cls=.type "StopIteration")->E (.ref e) { s with heap:=h' }):
  wpAny (model prog w) A (Builtin.«zip.__next__» ⟨[.ref z],[]⟩) Q E s:=by
 show wpAny _ _ (field (.ref z) 2 >>= _) _ _ _;refine ad (ap (x:=.bool false) hz rfl rfl ?_);show wpAny _ _ (field (.ref z) 3 >>= _) _ _ _;refine ad (ap (x:=.ref TI) hz rfl rfl ?_);refine ad (wpAny_seqItems hI rfl ?_);show wpAny _ _ (Builtin.SmallTypes.ownedTupleIsFree (.ref z) >>= _) _ _ _;refine ad ?_;unfold Builtin.SmallTypes.ownedTupleIsFree;refine ad (ap (x:=.none) hz rfl rfl (am ?_));simp only[if_true];refine ad (wpAny_rule ?_);refine ad (ap (x:=.ref TO) hz rfl rfl ?_);refine ad (wpAny_setField_rec hz (by simp) λp1 z1 b1=>?_)
 replace z1:aV p1 z TI TO .ellipsis f1:=z1
 refine ad ?_;simp only[zipIdx_cons,zipIdx_nil,forIn_cons,forIn_nil];refine ad (ad (wpAny_onRaise ?_));show wpAny _ _ (Builtin.SmallTypes.nextOf (.ref i1) >>= _) _ _ _;cases e1:xs[k1]? with
 |none=>
  refine ad (jQ hh (g1.to λo e=>b1.extBut _ o D.i1z e) (t1.to λo e=>b1.extBut _ o D.l1z e) e1 λp2 e b2 he=>?_);obtain ⟨oe,ho,hc⟩:=he;have z2:aV p2 z TI TO .ellipsis f1:=b2 _ _ D.i1z.symm z1;have ne:e≠z:=λn=>by subst n;rw[z2] at ho;cases ho;simp at hc
  exact wpAny_setField_rec z2 (by simp) λp3 _ b3=>q p3 e (λc o n1 _ n3 _ v=>b3.extBut _ _ n1 (b2 _ _ n3 (b1.extBut _ _ n1 v))) ⟨oe,b3.extBut _ _ ne ho,hc⟩
 |some x=>
  have e2:ys[k2]? =none:=by rcases hx with h|h;(rw[e1] at h;cases h);exact h
  refine ad (cy (g1.to λo e=>b1.extBut _ o D.i1z e) (t1.to λo e=>b1.extBut _ o D.l1z e) e1 λp2 g1b b2=>am ?_);have hO2:IsPair p2 TO a b:=b2.extBut _ _ D.TOi1 (b1.extBut _ _ D.TOz hO);refine ad (wpAny_seqItems hO2 rfl ?_);refine ad (wpAny_updateSeq_pair hO2 λp3 hO3 b3=>?_);refine ad (wpAny_letGo (am ?_));refine ad (ad (wpAny_onRaise ?_));show wpAny _ _ (Builtin.SmallTypes.nextOf (.ref i2) >>= _) _ _ _;refine ad (jQ hh (g2.to λo e=>b3.extBut _ o D.TOi2.symm (b2.extBut _ o D.i12.symm (b1.extBut _ o D.i2z e))) (t2.to λo e=>b3.extBut _ o D.l2TO (b2.extBut _ o D.l2i1 (b1.extBut _ o D.l2z e))) e2 λp4 e b4 he=>?_);obtain ⟨oe,ho,hc⟩:=he;have z4:aV p4 z TI TO .ellipsis f1:=b4 _ _ D.i2z.symm (b3.extBut _ _ D.TOz.symm (b2.extBut _ _ D.i1z.symm z1));have ne:e≠z:=λn=>by subst n;rw[z4] at ho;cases ho;simp at hc
  exact wpAny_setField_rec z4 (by simp) λp5 _ b5=>q p5 e (λc o n1 n2 n3 n4 v=>b5.extBut _ _ n1 (b4 _ _ n4 (b3.extBut _ _ n2 (b2.extBut _ _ n3 (b1.extBut _ _ n1 v))))) ⟨oe,b5.extBut _ _ ne ho,hc⟩
def qi {Q:Option Obj->Shared->Prop}(h:Q (s.heap.get? c) s):wpAny (model prog w) A (loadIfAlive c) Q E s:=λ_ _ _=>h
variable {t:Tok}
def rp {Q:Bool->Shared->Prop}(hz:aV s.heap z TI TO (.int T t) (.bool fb))(hT:s.heap.get? T.toNat=some oT)(q:∀ h',aV h' z TI TO (.int T t) (.bool true)->Heap.SameBut z s.heap h'->Q false { s with heap:=h' }):
  wpAny (model prog w) A (Builtin.SmallTypes.ownedTupleIsFree (.ref z)) Q E s:=by
 unfold Builtin.SmallTypes.ownedTupleIsFree;refine ad (ap (x:=.int T t) hz rfl rfl ?_);refine ad (qi ?_);rw[hT];refine ad (ap (x:=.bool fb) hz rfl rfl ?_);cases fb
 ·refine ad (wpAny_setField_rec hz (by simp) λp1 z1 b1=>am ?_);exact q p1 z1 b1
 ·exact ad (am (am (q s.heap hz (Heap.SameBut.refl ..))))
def BB (D:ZipApart z TI TO i1 i2 l1 l2)(hz:aV s.heap z TI TO (.int T t) (.bool fb))(hT:s.heap.get? T.toNat=some oT)(hI:IsPair s.heap TI (.ref i1) (.ref i2))
  (g1:aD tp1 s.heap i1 l1 k1) (g2:aD tp2 s.heap i2 l2 k2) (t1:aT tp1 s.heap l1 xs) (t2:aT tp2 s.heap l2 ys) (hx:xs[k1]? =some x) (hy:ys[k2]? =some y)
  (q:∀ h',aV h' z TI TO (.int T t) (.bool true)->aD tp1 h' i1 l1 (k1+1)->aD tp2 h' i2 l2 (k2+1)->IsPair h' s.heap.objs.size x y->h'.objs.size=s.heap.objs.size+1->
   (∀ c o,c≠z->c≠i1->c≠i2->s.heap.get? c=some o->h'.get? c=some o)->Q (some (.ref s.heap.objs.size)) { s with heap:=h' }):wpAny (model prog w) A (pyNext (.ref z)) Q E s:=by
 have hZ:s.TypeIs (.ref z) "zip":=⟨_,hz,rfl⟩;unfold pyNext;refine ad (wpAny_attempt (wpAny_callSpecial?_slot (name:=Str.ofString "__next__") hZ F.slot_zip_next (wpAny_call_entry F.slot_zip_next hZ F.entry_zip_next ?_ (F.args_zip_next_1 _))));show wpAny _ _ (field (.ref z) 2 >>= _) _ _ _;refine ad (ap (x:=.bool false) hz rfl rfl ?_);show wpAny _ _ (field (.ref z) 3 >>= _) _ _ _;refine ad (ap (x:=.ref TI) hz rfl rfl ?_);refine ad (wpAny_seqItems hI rfl ?_);show wpAny _ _ (Builtin.SmallTypes.ownedTupleIsFree (.ref z) >>= _) _ _ _;refine ad (rp hz hT λp1 z1 b1=>?_);simp only[Bool.false_eq_true,if_false];simp only[List.forIn_toArray,forIn_cons,forIn_nil];refine ad (ad (ad (bd ?_)));show wpAny _ _ (Builtin.SmallTypes.nextOf (.ref i1) >>= _) _ _ _;refine ad (cy (g1.to λo e=>b1.extBut _ o D.i1z e) (t1.to λo e=>b1.extBut _ o D.l1z e) hx λp2 g1b b2=>am (am ?_));dsimp only;refine ad (ad (bd ?_));show wpAny _ _ (Builtin.SmallTypes.nextOf (.ref i2) >>= _) _ _ _;refine ad (cy (g2.to λo e=>b2.extBut _ o D.i12.symm (b1.extBut _ o D.i2z e)) (t2.to λo e=>b2.extBut _ o D.l2i1 (b1.extBut _ o D.l2z e)) hy λp3 g2b b3=>am (am (am ?_)));dsimp only;refine ad (wpAny_newTuple ?_ (hsz:=fits (ol rfl)));have hsz:p3.objs.size=s.heap.objs.size:=by rw[b3.1,b2.1,b1.1]
 refine am ⟨_,rfl,?_⟩;have z3:aV p3 z TI TO (.int T t) (.bool true):=b3.extBut _ _ D.i2z.symm (b2.extBut _ _ D.i1z.symm z1);rw[hsz];refine am (q _ (tz _ z3) (g1b.to λo e=>tz _ (b3.extBut _ o D.i12 e)) (g2b.to λo e=>tz _ e) (by rw[<-hsz];exact ul _ rfl) (by rw[Heap.size_push,hsz]) λc o n1 n2 n3 e=>?_);exact tz _ (b3.extBut _ _ n3 (b2.extBut _ _ n2 (b1.extBut _ _ n1 e)))
def zq {Q:Fin->Shared->Prop}(hh:A.handled=none)(D:ZipApart z TI TO i1 i2 l1 l2)(hz:aV s.heap z TI TO (.int T t) (.bool fb))(hT:s.heap.get? T.toNat=some oT)(hI:IsPair s.heap TI (.ref i1) (.ref i2))
  (g1:aD tp1 s.heap i1 l1 k1) (g2:aD tp2 s.heap i2 l2 k2) (t1:aT tp1 s.heap l1 xs) (t2:aT tp2 s.heap l2 ys) (hx:xs[k1]? =none\/ys[k2]? =none)
  (q:∀ h' e,(∀ c o,c≠z->c≠i1->c≠i2->s.heap.get? c=some o->h'.get? c=some o)->(∃ o,h'.get? e=some o/\o.cls=.type "StopIteration")->E (.ref e) { s with heap:=h' }):
  wpAny (model prog w) A (Builtin.«zip.__next__» ⟨[.ref z],[]⟩) Q E s:=by
 show wpAny _ _ (field (.ref z) 2 >>= _) _ _ _;refine ad (ap (x:=.bool false) hz rfl rfl ?_);show wpAny _ _ (field (.ref z) 3 >>= _) _ _ _;refine ad (ap (x:=.ref TI) hz rfl rfl ?_);refine ad (wpAny_seqItems hI rfl ?_);show wpAny _ _ (Builtin.SmallTypes.ownedTupleIsFree (.ref z) >>= _) _ _ _;refine ad (rp hz hT λp1 z1 b1=>?_);simp only[Bool.false_eq_true,if_false];simp only[List.forIn_toArray,forIn_cons,forIn_nil];refine ad (ad (ad (bd ?_)));show wpAny _ _ (Builtin.SmallTypes.nextOf (.ref i1) >>= _) _ _ _;cases e1:xs[k1]? with
 |none=>exact ad (jQ hh (g1.to λo e=>b1.extBut _ o D.i1z e) (t1.to λo e=>b1.extBut _ o D.l1z e) e1 λp2 e b2 he=>q p2 e (λc o n1 n2 n3 v=>b2 _ _ n2 (b1.extBut _ _ n1 v)) he)
 |some x=>
  have e2:ys[k2]? =none:=by rcases hx with h|h;(rw[e1] at h;cases h);exact h
  refine ad (cy (g1.to λo e=>b1.extBut _ o D.i1z e) (t1.to λo e=>b1.extBut _ o D.l1z e) e1 λp2 g1b b2=>am (am ?_));dsimp only;refine ad (ad (bd ?_));show wpAny _ _ (Builtin.SmallTypes.nextOf (.ref i2) >>= _) _ _ _;exact ad (jQ hh (g2.to λo e=>b2.extBut _ o D.i12.symm (b1.extBut _ o D.i2z e)) (t2.to λo e=>b2.extBut _ o D.l2i1 (b1.extBut _ o D.l2z e)) e2 λp4 e b4 he=>q p4 e (λc o n1 n2 n3 v=>b4 _ _ n3 (b2.extBut _ _ n2 (b1.extBut _ _ n1 v))) he)
def xS (hh:A.handled=none)(D:ZipApart z TI TO i1 i2 l1 l2)(hz:aV s.heap z TI TO .none f1)(hI:IsPair s.heap TI (.ref i1) (.ref i2))(hO:IsPair s.heap TO a b)
  (g1:aD tp1 s.heap i1 l1 k1) (g2:aD tp2 s.heap i2 l2 k2) (t1:aT tp1 s.heap l1 xs) (t2:aT tp2 s.heap l2 ys) (hx:xs[k1]? =none\/ys[k2]? =none)
  (q:∀ h',(∀ c o,c≠z->c≠TO->c≠i1->c≠i2->s.heap.get? c=some o->h'.get? c=some o)->Q none { s with heap:=h' }):wpAny (model prog w) A (pyNext (.ref z)) Q E s:=by
 have hT:s.TypeIs (.ref z) "zip":=⟨_,hz,rfl⟩;unfold pyNext;refine ad (wpAny_attempt (wpAny_callSpecial?_slot (name:=Str.ofString "__next__") hT F.slot_zip_next (wpAny_call_entry F.slot_zip_next hT F.entry_zip_next (FU hh D hz hI hO g1 g2 t1 t2 hx λh' e k ⟨o,ho,hc⟩=>?_) (F.args_zip_next_1 _))));exact ad (wpAny_isInstance (T:="StopIteration") (b:=true) ⟨o,ho,hc⟩ isSubtype_stop (am (q _ k)))
def xN (hh:A.handled=none)(D:ZipApart z TI TO i1 i2 l1 l2)(hz:aV s.heap z TI TO (.int T t) (.bool fb))(hT:s.heap.get? T.toNat=some oT)(hI:IsPair s.heap TI (.ref i1) (.ref i2))
  (g1:aD tp1 s.heap i1 l1 k1) (g2:aD tp2 s.heap i2 l2 k2) (t1:aT tp1 s.heap l1 xs) (t2:aT tp2 s.heap l2 ys) (hx:xs[k1]? =none\/ys[k2]? =none)
  (q:∀ h',(∀ c o,c≠z->c≠i1->c≠i2->s.heap.get? c=some o->h'.get? c=some o)->Q none { s with heap:=h' }):wpAny (model prog w) A (pyNext (.ref z)) Q E s:=by
 have hT':s.TypeIs (.ref z) "zip":=⟨_,hz,rfl⟩;unfold pyNext;refine ad (wpAny_attempt (wpAny_callSpecial?_slot (name:=Str.ofString "__next__") hT' F.slot_zip_next (wpAny_call_entry F.slot_zip_next hT' F.entry_zip_next (zq hh D hz hT hI g1 g2 t1 t2 hx λh' e k ⟨o,ho,hc⟩=>?_) (F.args_zip_next_1 _))));exact ad (wpAny_isInstance (T:="StopIteration") (b:=true) ⟨o,ho,hc⟩ isSubtype_stop (am (q _ k)))
abbrev i6 (tp:Bool)(c:Addr):Obj:=match tp with
 |true=>{ cls:=.type "tuple_iterator",data:=.fields #[.ref c,.int 0 0] }
 |false=>{ cls:=.type "list_iterator",data:=.fields #[.ref c,.int 0 0] }
def fc {vs:Array Value}{Q:M6}(t:aT tp s.heap c vs)(q:Q (.ref s.heap.objs.size) { s with heap:=s.heap.push (i6 tp c) }):wpAny (model prog w) A (pyIter (.ref c)) Q E s:=by
 cases tp
 ·exact wpAny_pyIter_list t q
 ·exact wpAny_pyIter_tuple t q
@[reducible]def xC (a:Array Value):Obj:={ cls:=.type "tuple",data:=.seq a }
@[reducible]def vV (m n:Addr):Obj:={ cls:=.type "zip",data:=.fields #[.none,.bool false,.bool false,.ref m,.ref n] }
def Ic {l:Addr}:(i6 tp l).isFreed=false:=by cases tp<;>rfl
def yC {n:Nat}(o:Obj)(hn:h.objs.size=n)(ho:o.isFreed=false:=by first|rfl|exact Ic):∃ h',h.push o=h'/\h'.get? n=some o/\h'.objs.size=n+1/\∀ c o',h.get? c=some o'->h'.get? c=some o':=
 ⟨_,rfl,hn▸ul _ ho,by rw[Heap.size_push,hn],λ_ _ e=>tz _ e⟩
def JX {i l:Addr}(e:h.get? i=some (i6 tp l)):aD tp h i l 0:=by
 cases tp
 ·exact ⟨_,e,rfl,rfl⟩
 ·exact ⟨_,e,rfl,rfl⟩
noncomputable abbrev Eh (h:Heap)(tp1 tp2:Bool)(l1 l2:Addr):Heap:=((((h.push (i6 tp1 l1)).push (i6 tp2 l2)).push (xC #[.ref h.objs.size,.ref (h.objs.size+1)])).push (xC #[.none,.none])).push (vV (h.objs.size+2) (h.objs.size+3))
def CH (tp1 tp2:Bool)(l1 l2:Addr)(xs ys:Array Value):Meets (Builtin.«zip.__new__» ⟨[.type "zip",.ref l1,.ref l2],[]⟩)
  (λ_ R s=>aT tp1 s.heap l1 xs/\aT tp2 s.heap l2 ys/\R (.ok (.ret (.ref (s.heap.objs.size+4)))) { s with heap:=Eh s.heap tp1 tp2 l1 l2 }):=.of_wp λprog w A R s h=>by
 obtain ⟨hp,g,d,tk,os⟩:=s;obtain ⟨t1,t2,q⟩:=h;have hsub:=sub_zip;have t2':aT tp2 (hp.push (i6 tp1 l1)) l2 ys:=t2.to λo e=>tz _ e
 wp_walk using fc (s:=⟨hp,g,d,tk,os⟩) t1,fc (s:=⟨hp.push (i6 tp1 l1),g,d,tk,os⟩) t2'
 refine ⟨_,rfl,?_⟩;simp only[Heap.size_push,Nat.add_assoc] at q⊢;exact q
def pX {Q:M6}(t1:aT tp1 s.heap l1 xs)(t2:aT tp2 s.heap l2 ys)
  (q:∀ h',aV h' (s.heap.objs.size+4) (s.heap.objs.size+2) (s.heap.objs.size+3) .none (.bool false)->IsPair h' (s.heap.objs.size+2) (.ref s.heap.objs.size) (.ref (s.heap.objs.size+1))->
   IsPair h' (s.heap.objs.size+3) .none .none->aD tp1 h' s.heap.objs.size l1 0->aD tp2 h' (s.heap.objs.size+1) l2 0->h'.objs.size=s.heap.objs.size+5->
   (∀ c o,s.heap.get? c=some o->h'.get? c=some o)->Q (.ref (s.heap.objs.size+4)) { s with heap:=h' }):
  wpAny (model prog w) A (call (.type "zip") [.ref l1,.ref l2]) Q E s:=by
 refine callType_new F.called_zip (by decide) (F.typeCall_zip_2 _ _) (F.newCall_zip_2 _ _) (λobj=>F.args_object_init_3 obj _ _) F.entry_zip_new (CH tp1 tp2 l1 l2 xs ys) ⟨t1,t2,?_⟩;generalize hn:s.heap.objs.size=n at q⊢;have hz:Eh s.heap tp1 tp2 l1 l2=((((s.heap.push (i6 tp1 l1)).push (i6 tp2 l2)).push (xC #[.ref n,.ref (n+1)])).push (xC #[.none,.none])).push (vV (n+2) (n+3)):=by rw[<-hn]
 obtain ⟨_,a1,e0,z0,k0⟩:=yC (i6 tp1 l1) hn;obtain ⟨_,a2,e1,z1,k1⟩:=yC (i6 tp2 l2) z0;obtain ⟨_,a3,e2,z2,k2⟩:=yC (xC #[.ref n,.ref (n+1)]) z1;obtain ⟨_,a4,e3,z3,k3⟩:=yC (xC #[.none,.none]) z2;obtain ⟨_,a5,e4,z4,k4⟩:=yC (vV (n+2) (n+3)) z3;rw[hz,a1,a2,a3,a4,a5];exact ⟨⟨_,e4,rfl⟩,q _ e4 (k4 _ _ (k3 _ _ e2)) (k4 _ _ e3) ((JX e0).to λo e=>k4 _ _ (k3 _ _ (k2 _ _ (k1 _ _ e)))) ((JX e1).to λo e=>k4 _ _ (k3 _ _ (k2 _ _ e))) z4 λc o e=>k4 _ _ (k3 _ _ (k2 _ _ (k1 _ _ (k0 _ _ e))))⟩
def yf {n:Addr}(a1:l1<n)(a2:l2<n):ZipApart (n+4) (n+2) (n+3) n (n+1) l1 l2:=by
 constructor<;>(intro e;have e':=(show @Eq Nat _ _ from e);have b1:=(show @LT.lt Nat _ l1 n from a1);have b2:=(show @LT.lt Nat _ l2 n from a2);omega)
def mL {m:Nat}{T:Addr}{Q:M5}(hz:aV s.heap z TI TO (rawInt T) f1)(q:∀ h',aV h' z TI TO .none f1->Heap.SameBut z s.heap h'->Q () { s with heap:=h' }):
  wpAny (model prog w) A (letOwnedTupleGo (.Tuple elts m pos) (.ref z) (.ref T)) Q E s:=by
 unfold letOwnedTupleGo;refine ad (wpAny_load hz ?_);show wpAny _ _ (if (["enumerate","zip","dict_itemiterator","dict_reverseitemiterator","odict_iterator","itertools.zip_longest","itertools.pairwise"].contains "zip"&&(#[rawInt T,f1,.bool false,.ref TI,.ref TO]:Array Value)[0]? ==some (rawInt T))=true then _ else _) Q E s;rw[if_pos (by simp)];exact ad (wpAny_rule (wpAny_setField_rec hz (by simp) λh' z' b'=>q h' z' b'))
def fe {f0:Value}{Q:M6}(hz:aV s.heap z TI TO f0 f1)(h:Q (.ref z) s):wpAny (model prog w) A (pyIter (.ref z)) Q E s:=by
 have hT:s.TypeIs (.ref z) "zip":=⟨_,hz,rfl⟩;refine wpAny_pyIter_slot hT F.slot_zip_iter (wpAny_call_entry F.slot_zip_iter hT F.entry_zip_iter ?_ (F.args_zip_iter_1 _));show wpAny _ _ (ret (.ref z)) _ _ s;exact am ⟨_,rfl,"zip",_,hT,F.slot_zip_next.lookup,h⟩
end
variable {X:Cx}{Y:M7}{U:St}{H:Hp}{s:Shared}
def Inv.vj {h':Heap}{t':Nat}{ch:List Addr}(I:Inv X Y U H s)(k:∀ b u,b ∉ ch->s.heap.get? b=some u->h'.get? b=some u) (hf:∀ b ∈ ch,iM X Y H b):Inv X Y U H { s with heap:=h',toks:=t' }:=by
 have nch:∀ b u,H b=some u->b ∉ ch:=λb u e z=>by rw[(hf b z).1] at e;cases e
 refine I.step (g':=s.gens) (d':=s.drawn) (ch:=ch) (λb hb=>?_) (λb o _ _ hc e _=>k b o hc e) (λb o _ _ hc e _=>⟨o.slots,k b o hc e⟩) (λ_ _ _ _ n=>n)
  (λb o hc e=>⟨o,k b o hc e⟩) (λ_ _ e=>e) (λ_ _ _ e=>e) (λb ps e=>⟨#[],by rw[e];simp⟩) (λm hm=>?_) (λb u e=>?_) I.bare
 ·obtain ⟨_,f1,_,f3,f4,f5⟩:=hf b hb;exact ⟨f3,f1,f4,f5⟩
 ·obtain ⟨o,es,ep,ho,r⟩:=hm;exact ⟨o,es,ep,k _ o (λz=>(hf _ z).2.1 rfl) ho,r⟩
 ·refine (I.hok b u e).jD (λc v hc q=>k c v ?_ q) (λ_ q=>q) λ_ _ q=>q
  rcases hc with rfl|hc
  ·exact nch _ _ e
  ·exact nch _ _ hc
abbrev Sq (K:W.Frag)(tp:Bool)(H:Hp)(c:Addr)(xs:List V):Prop:=match tp with
 |true=>aS K H c xs
 |false=>bc K H c xs
def Inv.sq {xs:List V}(I:Inv X Y U H s)(h:Sq X.K tp H c xs):∃ its:List Value,Vals xs its/\aT tp s.heap c its.toArray:=by
 cases tp
 ·obtain ⟨its,r,p,_⟩:=I.list h;exact ⟨its,r,p.isList⟩
 ·obtain ⟨its,r,p,_⟩:=I.tuple h;exact ⟨its,r,p⟩
def Inv.kW {xs ys:List V}(I:Inv X Y U H s)(h:Sq X.K tp H c xs)(h':Sq X.K tp H c ys):xs=ys:=by
 cases tp
 ·exact I.kS h h'
 ·exact I.fq h h'
abbrev KL (K:W.Frag)(tp1:Bool)(l1:Addr)(tp2:Bool)(l2:Addr):It:=
 ⟨λi H=>∃ xs ys x y,Sq K tp1 H l1 xs/\Sq K tp2 H l2 ys/\xs[i]? =some x/\ys[i]? =some y,
  λi H v H'=>∃ T x y,H T=none/\v=.ref T/\H'=upd H T (.tup [x,y])/\(∀ xs,Sq K tp1 H l1 xs->xs[i]? =some x)/\∀ ys,Sq K tp2 H l2 ys->ys[i]? =some y,
  λi H=>∃ xs ys,Sq K tp1 H l1 xs/\Sq K tp2 H l2 ys/\(xs.length<=i\/ys.length<=i)⟩
def xV {P:Program}{w:World}{K:W.Frag}{tp1 tp2:Bool}{z TI TO i1 i2 l1 l2:Addr}(D:ZipApart z TI TO i1 i2 l1 l2):
  Turn P w K (.Tuple elts k pos) (KL K tp1 l1 tp2 l2) [z,TI,TO,i1,i2] z (λi h=>(∃ f1,aV h z TI TO .none f1)/\IsPair h TI (.ref i1) (.ref i2)/\(∃ a b,IsPair h TO a b)/\aD tp1 h i1 l1 i/\aD tp2 h i2 l2 i) where
 mem:=by simp
 obj:=λi h st b hb=>by
  obtain ⟨⟨f1,hz⟩,hI,⟨a,b',hO⟩,g1,g2⟩:=st;have it:∀ {tp:Bool}{j c:Addr}{k:Nat},aD tp h j c k->∃ o,h.get? j=some o/\∀ v,o.data≠.cell v:=λ{tp j c k} g=>by
   cases tp
   ·obtain ⟨o,e,_,d⟩:=(show h.IsListIter j c k from g);exact ⟨o,e,λv z=>by rw[d] at z;cases z⟩
   ·obtain ⟨o,e,_,d⟩:=(show h.IsTupleIter j c k from g);exact ⟨o,e,λv z=>by rw[d] at z;cases z⟩
  simp only[lw,not_mem_nil,or_false] at hb;rcases hb with rfl|rfl|rfl|rfl|rfl
  ·exact ⟨_,hz,λv e=>by cases (show Data.fields _=Data.cell v from e)⟩
  ·exact ⟨_,hI,λv e=>by cases (show Data.seq _ _=Data.cell v from e)⟩
  ·exact ⟨_,hO,λv e=>by cases (show Data.seq _ _=Data.cell v from e)⟩
  ·exact it g1
  ·exact it g2
 keep:=λi h h' st k=>by
  obtain ⟨⟨f1,hz⟩,hI,⟨a,b',hO⟩,g1,g2⟩:=st;exact ⟨⟨f1,k z (by simp) _ hz⟩,k TI (by simp) _ hI,⟨a,b',k TO (by simp) _ hO⟩,g1.to λo e=>k i1 (by simp) o e,g2.to λo e=>k i2 (by simp) o e⟩
 item:=by
  intro X hP hw hK hc i Y s U H E I hf st hg;subst hP hw hK;obtain ⟨xs,ys,x,y,hq1,hq2,hx,hy⟩:=hg;obtain ⟨⟨f1,hz⟩,hI,⟨a,b,hO⟩,g1,g2⟩:=st;obtain ⟨is1,r1,t1⟩:=I.sq hq1;obtain ⟨is2,r2,t2⟩:=I.sq hq2;obtain ⟨u,hu,ru⟩:=r1.get hx;obtain ⟨v,hv,rv⟩:=r2.get hy;have n0:∀ {c o},s.heap.get? c=some o->c≠s.heap.objs.size:=λe=>pc (u8 e)
  refine uB D hz hI hO g1 g2 t1 t2 (x:=u) (y:=v) (by simpa using hu) (by simpa using hv) λh1 z1 o1 j1 j2 hT hs1 k1=>?_
  have I1:Inv X Y U (upd H s.heap.objs.size (.tup [x,y])) { s with heap:=h1,toks:=s.toks }:=
   I.g7 (ch:=[z,TI,TO,i1,i2]) (λb o hb q=>k1 b o (λe=>hb (by simp[e])) (λe=>hb (by simp[e])) (λe=>hb (by simp[e])) (λe=>hb (by simp[e])) q) hf (pi _)
    ⟨fits (ol rfl),[u,v],.cons ru (.cons rv .nil),⟨_,hT,rfl,_,rfl⟩⟩
  refine ⟨_,rfl,mL z1 λh2 z2 b2=>?_⟩;obtain ⟨f0,f1',f2,f3,f4,f5⟩:=hf z (by simp);have I2:=I1.turned (h':=h2) (t':=s.toks) (it:=z) (λb o hb q=>(b2.2 b hb).trans q) (by rw[ag (n0 hz)];exact f0) f1' f3 f4 f5;refine ⟨.ref s.heap.objs.size,_,I2,rfl,⟨_,x,y,I.hok.fresh (pi _),rfl,rfl,λzs hz'=>?_,λzs hz'=>?_⟩,⟨⟨_,z2⟩,?_,⟨_,_,b2.extBut _ _ D.TOz o1⟩,j1.to λo e=>b2.extBut _ o D.i1z e,j2.to λo e=>b2.extBut _ o D.i2z e⟩,λb hb=>?_⟩
  ·rw[I.kW hz' hq1];exact hx
  ·rw[I.kW hz' hq2];exact hy
  ·exact b2.extBut _ _ D.TIz (k1 _ _ D.TIz D.TITO D.TIi1 D.TIi2 hI)
  ·have hb':b≠s.heap.objs.size:=by
    simp only[lw,not_mem_nil,or_false] at hb;rcases hb with rfl|rfl|rfl|rfl|rfl
    ·exact n0 hz
    ·exact n0 hI
    ·exact n0 hO
    ·exact pc g1.lt
    ·exact pc g2.lt
   rw[ag hb'];exact (hf b hb).1
 done:=by
  intro X hP hw hK hc i Y s U H E I hf st hg;subst hP hw hK;obtain ⟨xs,ys,hq1,hq2,hx⟩:=hg;obtain ⟨⟨f1,hz⟩,hI,⟨a,b,hO⟩,g1,g2⟩:=st;obtain ⟨is1,r1,t1⟩:=I.sq hq1;obtain ⟨is2,r2,t2⟩:=I.sq hq2;have e1:=r1.length;have e2:=r2.length;refine xS (I.ok.hd hc) D hz hI hO g1 g2 t1 t2 (by simp;omega) λh' k'=>⟨rfl,?_⟩
  exact I.vj (t':=s.toks) (ch:=[z,TI,TO,i1,i2]) (λb o hb q=>k' b o (λe=>hb (by simp[e])) (λe=>hb (by simp[e])) (λe=>hb (by simp[e])) (λe=>hb (by simp[e])) q) hf
 self:=λ_ _ _ _ _ st h=>by
  obtain ⟨⟨f1,hz⟩,_⟩:=st;exact fe hz h
def rO:bootBuiltins "zip"=some (.type "zip"):=by decide+kernel
abbrev Il (K:W.Frag)(v u:V)(H:Hp)(R:It->Hp->Prop):Prop:=∃ tp1 l1 tp2 l2,v=.ref l1/\u=.ref l2/\(∃ xs,Sq K tp1 H l1 xs)/\(∃ ys,Sq K tp2 H l2 ys)/\R (KL K tp1 l1 tp2 l2) H
abbrev L7 (K:W.Frag)(ta:TA):TI:=λU H R=>ta U H λvs H1=>∃ v u,vs=[v,u]/\Il K v u H1 R
variable {ta:TA}{p:Pos}
def G1 {a b:Expr}{pos':Pos}(hg:Gl X "zip") (hm:X.mg "zip"=none) (ha:PA X [a,b] ta) (hs:bm [a,b] X.env=(false,eval a X.env)::bm [b] X.env:=by rfl) (hpl:(backTo pos (bm [b] X.env)).any (·.1)=false:=by rfl):
  PI X (.Tuple elts k pos') (.Call (.Name "zip" p) [a,b] [] pos) (L7 X.K ta):=by
 intro Y s U H R I h;refine Call_ (bN I hg hm rO (PyProof.Rows.callWith_type1 (ax (ha pos Y s U H _ I h) λus s1 ⟨vs,H1,I1,r1,q1⟩=>?_) hs hpl));obtain ⟨v,u,e,tp1,l1,tp2,l2,e1,e2,⟨xs,q1⟩,⟨ys,q2⟩,q⟩:=q1;subst e e1 e2;cases r1 with
 |cons r rr=>
  cases rr with
  |cons r' rr'=>
   cases rr';cases r;cases r';obtain ⟨is1,s1',t1⟩:=I1.sq q1;obtain ⟨is2,s2',t2⟩:=I1.sq q2;refine pX t1 t2 λh' hz hI hO g1 g2 hsz hk=>?_
   refine fe hz ?_;refine ⟨s1.heap.objs.size+4,[s1.heap.objs.size+4,s1.heap.objs.size+2,s1.heap.objs.size+3,s1.heap.objs.size,s1.heap.objs.size+1],_,_,H1,rfl,I1.kept (t':=s1.toks) hk,xV (yf t1.lt t2.lt),⟨⟨_,hz⟩,hI,⟨_,_,hO⟩,g1,g2⟩,λb hb=>?_,q⟩;have hb':s1.heap.objs.size<=b:=by
    simp only[lw,not_mem_nil,or_false] at hb;rcases hb with rfl|rfl|rfl|rfl|rfl<;>first|exact pi _|exact Nat.le_add_right _ _
   exact I1.qO hb' (I1.hok.fresh hb')
def m8:entryFor table "zip.__getattribute__"=some Builtin.«object.__getattribute__»:=entryFor_alias (id':="object.__getattribute__") (by kernel_rfl) (by first|rfl|decide+kernel) (by decide+kernel) (by kernel_rfl)
def rm:typeLookup (.type "zip") "keys"=pure none:=by rw[typeLookup_type,builtinLookup_eq_fast];kernel_rfl
def vL:typeLookup (.type "zip") "__getattr__"=pure none:=by rw[typeLookup_type,builtinLookup_eq_fast];kernel_rfl
def wY (a:Addr)(vs:Array Value)(u:Tok):Meets (Builtin.«object.__getattribute__» ⟨[.ref a,.str "keys" u],[]⟩) (λA R s=>s.heap.get? a=some { cls:=.type "zip",dict:=none,data:=.fields vs,slots:=#[] }/\raisesAttr (.ref a) "keys" A R s):=
 Meets.of_wp λprog w A R s ⟨hx,hs⟩=>by
  obtain ⟨hp,g,d,tk,os⟩:=s;have hT:(⟨hp,g,d,tk,os⟩:Shared).TypeIs (.ref a) "zip":=⟨_,hx,rfl⟩;have f4:=rm;unfold Builtin.«object.__getattribute__»
  repeat (any_goals first|assumption|wp_step)
  exact wpAny_raiseAttrError hs.1 hs.2 (attrMsg_fits (by decide+kernel) (by rw[sizeLine_eq];decide+kernel))
section
variable {prog:Program}{w:World}{A:Around}{E:M6}{s:Shared}{a:Addr}{vs:Array Value}
def AE (hA:A.handled=none)(hx:s.heap.get? a=some { cls:=.type "zip",dict:=none,data:=.fields vs,slots:=#[] })
  (q:∀ h' t',(∀ c u,s.heap.get? c=some u->h'.get? c=some u)->Q none { s with heap:=h',toks:=t' }):wpAny (model prog w) A (getAttr? (.ref a) "keys") Q E s:=by
 obtain ⟨hp,g,d,tk,os⟩:=s;have hT:∀ t',(⟨hp,g,d,t',os⟩:Shared).TypeIs (.ref a) "zip":=λ_=>⟨_,hx,rfl⟩
 have f1:=sub_AttributeError;have f3:=PySem.F.slot_zip_getattribute.lookup;have f4:=PySem.F.slot_zip_getattribute.bind (.ref a);have f5:=vL;unfold getAttr? getAttrBy? getAttrBy
 repeat (any_goals first|assumption|((with_reducible show wpAny _ _ (call (Value.builtin "zip.__getattribute__") _ _) _ _ _);refine call_meets PySem.F.slot_zip_getattribute (hT _) m8 (PySem.F.args_zip_getattribute_2 _ _) (wY a vs _) ⟨hx,hA,λh' tk' e he=>?_⟩)|wp_step)
 obtain ⟨t1,u1,e1⟩:=he.there;show wpAny _ _ (getattributeRaised _ _ _ _ _ _ _) _ _ _;unfold getattributeRaised
 repeat (any_goals first|assumption|wp_step)
 exact q _ _ he.keeps
end
structure Zs (h:Heap) (tp1 tp2:Bool) (z TI TO i1 i2 l1 l2:Addr) (i:Nat) (xs ys:Array Value):Prop where
 zo:(∃ f1,aV h z TI TO .none f1)\/∃ (T:Int) (fb:Bool) (o:Obj),aV h z TI TO (rawInt T) (.bool fb)/\h.get? T.toNat=some o/\T.toNat≠z/\T.toNat≠TO/\T.toNat≠i1/\T.toNat≠i2
 hI:IsPair h TI (.ref i1) (.ref i2)
 hO:∃ a b,IsPair h TO a b
 g1:aD tp1 h i1 l1 i
 g2:aD tp2 h i2 l2 i
 t1:aT tp1 h l1 xs
 t2:aT tp2 h l2 ys
variable {d:Addr}
section
variable {prog:Program}{w:World}{A:Around}{E:M6}{s:Shared}{tp1 tp2:Bool}{z TI TO i1 i2 l1 l2:Addr}{i:Nat}{xs ys:Array Value}{x y:Value}
def Zs.next (D:ZipApart z TI TO i1 i2 l1 l2)(Z:Zs s.heap tp1 tp2 z TI TO i1 i2 l1 l2 i xs ys)(hx:xs[i]? =some x)(hy:ys[i]? =some y)
  (q:∀ h',Zs h' tp1 tp2 z TI TO i1 i2 l1 l2 (i+1) xs ys->IsPair h' s.heap.objs.size x y->h'.objs.size=s.heap.objs.size+1->(∀ c o,c≠z->c≠TO->c≠i1->c≠i2->s.heap.get? c=some o->h'.get? c=some o)->Q (some (.ref s.heap.objs.size)) { s with heap:=h' }):
  wpAny (model prog w) A (pyNext (.ref z)) Q E s:=by
 obtain ⟨zo,hI,⟨a,b,hO⟩,g1,g2,t1,t2⟩:=Z;have n0:∀ {c o},s.heap.get? c=some o->s.heap.objs.size≠c:=λe=>Nat.ne_of_gt (u8 e)
 rcases zo with ⟨f1,hz⟩|⟨T,fb,o,hz,hT,n1,n2,n3,n4⟩
 ·refine uB D hz hI hO g1 g2 t1 t2 hx hy λh' z1 o1 j1 j2 p1 sz k=>?_
  refine q h' ⟨.inr ⟨s.heap.objs.size,false,_,z1,p1,n0 hz,n0 hO,Nat.ne_of_gt g1.lt,Nat.ne_of_gt g2.lt⟩,k _ _ D.TIz D.TITO D.TIi1 D.TIi2 hI,⟨_,_,o1⟩,j1,j2,t1.to λo e=>k _ o D.l1z D.l1TO D.l1i1 D.l1i2 e,t2.to λo e=>k _ o D.l2z D.l2TO D.l2i1 D.l2i2 e⟩ p1 sz k
 ·refine BB D hz hT hI g1 g2 t1 t2 hx hy λh' z1 j1 j2 p1 sz k=>?_
  exact q h' ⟨.inr ⟨T,true,o,z1,k _ _ n1 n3 n4 hT,n1,n2,n3,n4⟩,k _ _ D.TIz D.TIi1 D.TIi2 hI,⟨a,b,k _ _ D.TOz D.TOi1 D.TOi2 hO⟩,j1,j2,t1.to λo e=>k _ o D.l1z D.l1i1 D.l1i2 e,t2.to λo e=>k _ o D.l2z D.l2i1 D.l2i2 e⟩ p1 sz λc o m1 _ m3 m4 e=>k c o m1 m3 m4 e
def Zs.stop (hh:A.handled=none)(D:ZipApart z TI TO i1 i2 l1 l2)(Z:Zs s.heap tp1 tp2 z TI TO i1 i2 l1 l2 i xs ys)(hx:xs[i]? =none\/ys[i]? =none)
  (q:∀ h',(∀ c o,c≠z->c≠TO->c≠i1->c≠i2->s.heap.get? c=some o->h'.get? c=some o)->Q none { s with heap:=h' }):wpAny (model prog w) A (pyNext (.ref z)) Q E s:=by
 obtain ⟨zo,hI,⟨a,b,hO⟩,g1,g2,t1,t2⟩:=Z;rcases zo with ⟨f1,hz⟩|⟨T,fb,o,hz,hT,_⟩
 ·exact xS hh D hz hI hO g1 g2 t1 t2 hx q
 ·exact xN hh D hz hT hI g1 g2 t1 t2 hx λh' k=>q h' λc o m1 _ m3 m4 e=>k c o m1 m3 m4 e
def Zs.keep {h':Heap}(Z:Zs h tp1 tp2 z TI TO i1 i2 l1 l2 i xs ys)(k:∀ c o,h.get? c=some o->c≠d->h'.get? c=some o) (n:d≠z/\d≠TI/\d≠TO/\d≠i1/\d≠i2/\d≠l1/\d≠l2) (hd:∃ o,h'.get? d=some o):Zs h' tp1 tp2 z TI TO i1 i2 l1 l2 i xs ys:=by
 obtain ⟨zo,hI,⟨a,b,hO⟩,g1,g2,t1,t2⟩:=Z;obtain ⟨m1,m2,m3,m4,m5,m6,m7⟩:=n;refine ⟨?_,k _ _ hI m2.symm,⟨a,b,k _ _ hO m3.symm⟩,g1.to λo e=>k _ o e m4.symm,g2.to λo e=>k _ o e m5.symm,t1.to λo e=>k _ o e m6.symm,t2.to λo e=>k _ o e m7.symm⟩;rcases zo with ⟨f1,hz⟩|⟨T,fb,o,hz,hT,r⟩
 ·exact .inl ⟨f1,k _ _ hz m1.symm⟩
 ·by_cases e:T.toNat=d
  ·obtain ⟨o',ho⟩:=hd;exact .inr ⟨T,fb,o',k _ _ hz m1.symm,by rw[e];exact ho,r⟩
  ·exact .inr ⟨T,fb,o,k _ _ hz m1.symm,k _ _ hT e,r⟩
end
def fm:plainId "dict.update.loop"=true:=by decide+kernel
def mQ:entryFor table "dict.update.loop"=some Builtin.«dict.update.loop»:=entryFor_of_tree (by kernel_rfl)
variable {E:M6}
section
variable {prog:Program}{w:World}{A:Around}{tp1 tp2:Bool}{z TI TO i1 i2 l1 l2 d:Addr}{xs ys:Array Value}{Ky:Type} [DecidableEq Ky] {knd:KeyKind prog w Ky}
def yZ (hh:A.handled=none)(D:ZipApart z TI TO i1 i2 l1 l2)(nd:d≠z/\d≠TI/\d≠TO/\d≠i1/\d≠i2/\d≠l1/\d≠l2)(ks:List Ky)(hk:∀ (j:Nat) x,xs[j]? =some x->∃ k,ks[j]? =some k/\knd.is k x=true) (hz:xs.size=ys.size):
  ∀ (m i:Nat),xs.size-i=m->i<=xs.size->∀ (s:Shared) (kvs:List (Ky×Value)) (R:Result->Shared->Prop),Zs s.heap tp1 tp2 z TI TO i1 i2 l1 l2 i xs ys->s.heap.DictOf knd d kvs->kvs.length+m<=bn->
  (∀ h' t',h'.DictOf knd d (merged kvs ((ks.zip ys.toList).drop i))->(∀ c o,c≠z->c≠TO->c≠i1->c≠i2->c≠d->s.heap.get? c=some o->h'.get? c=some o)->R (.ok (.ret .none)) { s with heap:=h',toks:=t' })->
  wpAny (model prog w) A.in1 (Builtin.«dict.update.loop» ⟨[.ref d,.ref z,rawInt i,.none],[]⟩) (λfin s'=>match fin with| .done f=>R (.ok f) s'| .again c'=>c'.quiet=true/\codeAny (model prog w) A c' R s') (λe s'=>R (.error e) s') s:=by
 intro m
 induction m with
 |zero=>
  intro i hm hi s kvs R Z dd hl q;show wpAny _ _ (pyNext (.ref z) >>= _) _ _ _;refine ad (Z.stop (show A.in1.handled=none from hh) D (.inl (by simp;omega)) λh' k=>?_);show wpAny _ _ (Builtin.Dict.addKeywords d [] >>= _) _ _ _;refine ad (am (am ?_));have e:(ks.zip ys.toList).drop i=[]:=by
   rw[List.drop_eq_nil_iff,length_zip];simp
   omega
  rw[e] at q;refine q h' s.toks ?_ λc o n1 n2 n3 n4 _ e=>k c o n1 n2 n3 n4 e
  obtain ⟨o,es,ep,ho,r⟩:=dd;exact ⟨o,es,ep,k _ _ nd.1 nd.2.2.1 nd.2.2.2.1 nd.2.2.2.2.1 ho,r⟩
 |succ m ih=>
  intro i hm hi s kvs R Z dd hl q;have h1:i<xs.size:=by omega
  have h2:i<ys.size:=by omega
  have e1:xs[i]? =some xs[i]:=Array.getElem?_eq_getElem h1;have e2:ys[i]? =some ys[i]:=Array.getElem?_eq_getElem h2;obtain ⟨k,hk1,hk2⟩:=hk i _ e1;show wpAny _ _ (pyNext (.ref z) >>= _) _ _ _;refine ad (Z.next D e1 e2 λh' Z' p sz fr=>?_);show wpAny _ _ (holding [_] _ >>= _) _ _ _;refine ad (bd ?_);refine ad ?_;have hT:({ s with heap:=h' }:Shared).TypeIs (.ref s.heap.objs.size) "tuple":=⟨_,p,rfl⟩;refine wpAny_tryCatch ?_;unfold Builtin.Dict.pairItems;refine ad (wpAny_typeOf hT ?_);rw[if_pos (by decide)];refine ad (wpAny_seqItems p rfl (am ?_));show wpAny _ _ (holding [_,_] (dictSet d xs[i] ys[i])) _ _ _;refine bd ?_;have dd':h'.DictOf knd d kvs:=by
   obtain ⟨o,es,ep,ho,r⟩:=dd;exact ⟨o,es,ep,fr _ _ nd.1 nd.2.2.1 nd.2.2.2.1 nd.2.2.2.2.1 ho,r⟩
  refine wpAny_dictSet_pairs (s:={ s with heap:=h' }) (hsz:=by omega) hk2 dd' λh2' d2 b2=>?_
  show wpAny _ _ (pure (Fin.again (.builtin "dict.update.loop" ⟨[.ref d,.ref z,rawInt ((i:Int)+1),.none],[]⟩))) _ _ _;refine am ⟨plainId_quiet fm _,codeAny_builtin mQ ?_⟩;rw[Around.under_plainId fm _,show ((i:Int)+1)=((i+1:Nat):Int) by push_cast;rfl];have hd:∃ o,h2'.get? d=some o:=let ⟨o,_,_,ho,_⟩:=d2;⟨o,ho⟩;refine ih (i+1) nofun nofun { s with heap:=h2',toks:=s.toks+1 } (stored kvs k ys[i]) R (Z'.keep (λc o e n=>b2.extBut _ _ n e) nd hd) d2 ?_ λh3 t3 d3 f3=>?_
  ·have:(stored kvs k ys[i]).length<=kvs.length+1:=by
    unfold stored
    split
    ·rw[ci];omega
    ·rw[cr];simp
   omega
  ·have ed:(ks.zip ys.toList).drop i=(k,ys[i])::(ks.zip ys.toList).drop (i+1):=by
    have:(ks.zip ys.toList)[i]? =some (k,ys[i]):=by
     rw[List.getElem?_zip_eq_some];exact ⟨hk1,by simpa using h2⟩
    obtain ⟨hlt,he⟩:=sK.mp this;rw[List.drop_eq_getElem_cons hlt,he]
   refine q h3 t3 ?_ λc o n1 n2 n3 n4 n5 e=>f3 c o n1 n2 n3 n4 n5 (b2.extBut _ _ n5 (fr c o n1 n2 n3 n4 e))
   rw[ed];exact d3
def nI {Q:M6}(hh:A.handled=none)(D:ZipApart z TI TO i1 i2 l1 l2)(ks:List Ky)(hk:∀ (j:Nat) x,xs[j]? =some x->∃ k,ks[j]? =some k/\knd.is k x=true) (hz:xs.size=ys.size) (hn:ks.Nodup) (hkl:ks.length=xs.size) (hsz:xs.size<=bn)
  (Z:Zs s.heap tp1 tp2 z TI TO i1 i2 l1 l2 0 xs ys) (hzo:∃ f1,aV s.heap z TI TO .none f1)
  (q:∀ h' t',h'.DictOf knd s.heap.objs.size (ks.zip ys.toList)->(∀ c o,c≠z->c≠TO->c≠i1->c≠i2->s.heap.get? c=some o->h'.get? c=some o)->Q (.ref s.heap.objs.size) { s with heap:=h',toks:=t' }):
  wpAny (model prog w) A (call (.type "dict") [.ref z]) Q E s:=by
 refine callType_codes (Q₁:=λobj s1=>obj=.ref s.heap.objs.size/\s1={ s with heap:=s.heap.push { cls:=.type "dict",data:=.dict #[] } }) PySem.F.kt_called_dict (PySem.F.kt_typeCall_dict_1 _) PySem.F.entry_dict_init (kt_code_dict_new _ ⟨rfl,rfl⟩) ?_;rintro obj s1 ⟨rfl,rfl⟩;have dn:(s.heap.push { cls:=.type "dict",data:=.dict #[] }).DictOf knd s.heap.objs.size []:=Heap.DictOf.new s.heap;refine ⟨dn.typeIs,PySem.F.args_dict_init_2 _ _,?_⟩;unfold Builtin.«dict.__init__»;refine ad ?_;unfold Builtin.Dict.selfAndRest;refine ad (wpAny_notOrdered_dict dn.typeIs ?_);show wpAny _ _ (pure (s.heap.objs.size,[Value.ref z])) _ _ _;refine am ?_;show wpAny _ _ (Builtin.Dict.updateFrom "dict.__init__" s.heap.objs.size (.ref z) [] .none) _ _ _;unfold Builtin.Dict.updateFrom;obtain ⟨f1,hz0⟩:=hzo;have hz1:(s.heap.push { cls:=.type "dict",data:=.dict #[] }).get? z=some _:=tz _ hz0;have hT:({ s with heap:=s.heap.push { cls:=.type "dict",data:=.dict #[] } }:Shared).TypeIs (.ref z) "zip":=⟨_,hz1,rfl⟩;refine ad (wpAny_typeOf hT ?_);rw[if_pos (by decide)];refine ad (AE hh hz1 λh1 t1 k1=>?_);rw[if_pos (show (none:Option Value).isNone=true from rfl)];refine ad (wpAny_rule ?_);refine ad (fe (s:={ s with heap:=h1,toks:=t1 }) (k1 _ _ hz1) ?_);have n0:∀ {c o},s.heap.get? c=some o->s.heap.objs.size≠c:=λe=>Nat.ne_of_gt (u8 e)
 have nd:s.heap.objs.size≠z/\s.heap.objs.size≠TI/\s.heap.objs.size≠TO/\s.heap.objs.size≠i1/\s.heap.objs.size≠i2/\s.heap.objs.size≠l1/\s.heap.objs.size≠l2:=by
  obtain ⟨a,b,hO⟩:=Z.hO;exact ⟨n0 hz0,n0 Z.hI,n0 hO,Nat.ne_of_gt Z.g1.lt,Nat.ne_of_gt Z.g2.lt,Nat.ne_of_gt Z.t1.lt,Nat.ne_of_gt Z.t2.lt⟩
 have kk:∀ c o,s.heap.get? c=some o->h1.get? c=some o:=λc o e=>k1 _ _ (tz _ e)
 have d1:h1.DictOf knd s.heap.objs.size []:=by
  obtain ⟨o,es,ep,ho,r⟩:=dn;exact ⟨o,es,ep,k1 _ _ ho,r⟩
 refine am ⟨plainId_quiet fm _,codeAny_builtin mQ ?_⟩;rw[Around.under_plainId fm _];refine yZ (A:=A.in1) (d:=s.heap.objs.size) hh D nd ks hk hz _ 0 rfl (Nat.zero_le _) { s with heap:=h1,toks:=t1 } [] _ (Z.keep (λc o e _=>kk c o e) nd (let ⟨o,_,_,ho,_⟩:=d1;⟨o,ho⟩)) d1 (by simpa using hsz) λh' t' d' f'=>?_
 rw[drop_zero,merged_nil_of_nodup _ (by rw[List.map_fst_zip (by simp;omega)];exact hn)] at d';exact ⟨rfl,q h' t' d' λc o n1 n2 n3 n4 e=>f' c o n1 n2 n3 n4 (n0 e).symm (kk c o e)⟩
end
def yH:bootBuiltins "dict"=some (.type "dict"):=by decide+kernel
def Ey {P:Program}{w:World}:∀ {ks:List Key}{us:List Value},Vals (ks.map kV) us->∀ (j:Nat) u,us[j]? =some u->∃ k,ks[j]? =some k/\(ar P w).is k u=true
 | [],_,.nil,j,u,h=>by simp at h
 |k::ks,_,.cons r rs,0,u,h=>by
  simp at h;subst h;exact ⟨k,rfl,ma r⟩
 |k::ks,_,.cons r rs,j+1,u,h=>by
  simp at h;obtain ⟨k',e1,e2⟩:=Ey (P:=P) (w:=w) rs j u h;exact ⟨k',by simpa using e1,e2⟩
def EJ:∀ {ks:List Key}{ys:List V}{us:List Value},Vals ys us->KV (ks.zip ys) (ks.zip us)
 | [],_,_,_=>by simp[List.zip];exact .nil
 |_::_,_,_,.nil=>.nil
 |k::ks,_,_,.cons r rs=>.cons ⟨rfl,r⟩ (EJ rs)
abbrev Ms (K:W.Frag)(v u:V)(H:Hp)(Q:VK):Prop:=∃ tp1 l1 tp2 l2,∃ (ks:List Key) (ys:List V),v=.ref l1/\u=.ref l2/\Sq K tp1 H l1 (ks.map kV)/\Sq K tp2 H l2 ys/\ks.Nodup/\ks.length=ys.length/\ks.length<=1000/\∀ p,H p=none->Q (.ref p) (upd H p (.dK (ks.zip ys)))
abbrev MT (K:W.Frag)(ta:TA):TE:=λU H Q=>ta U H λvs H1=>∃ v u,vs=[v,u]/\Ms K v u H1 Q
def Ci {a b:Expr}{p2 pos2:Pos}(hc:X.calm=true)(hg:Gl X "dict") (hm:X.mg "dict"=none) (hg2:Gl X "zip") (hm2:X.mg "zip"=none) (ha:PA X [a,b] ta)
  (hs:bm [a,b] X.env=(false,eval a X.env)::bm [b] X.env:=by rfl) (hpl:(backTo pos2 (bm [b] X.env)).any (·.1)=false:=by rfl):
  PE X (.Call (.Name "dict" p) [.Call (.Name "zip" p2) [a,b] [] pos2] [] pos) (MT X.K ta):=by
 intro Y s U H Q I h;have h1:bm [.Call (.Name "zip" p2) [a,b] [] pos2] X.env=[(false,eval (.Call (.Name "zip" p2) [a,b] [] pos2) X.env)]:=rfl;refine Call_ (bN I hg hm yH (PyProof.Rows.callWith_type1 ?_ h1 rfl));rw[h1];show wpAny _ _ (spliced ((false,eval (.Call (.Name "zip" p2) [a,b] [] pos2) X.env)::backTo pos [])) _ _ _;refine Calls.spliced_cons ?_;refine Call_ (bN I hg2 hm2 rO (PyProof.Rows.callWith_type1 (ax (ha pos2 Y s U H _ I h) λus s1 ⟨vs,H1,I1,r1,q1⟩=>?_) hs hpl));obtain ⟨v,u,e,tp1,l1,tp2,l2,ks,ys,e1,e2,q1,q2,kn,kl,kz,q⟩:=q1;subst e e1 e2;cases r1 with
 |cons r rr=>
  cases rr with
  |cons r' rr'=>
   cases rr';cases r;cases r';obtain ⟨is1,v1,t1⟩:=I1.sq q1;obtain ⟨is2,v2,t2⟩:=I1.sq q2;refine pX t1 t2 λh' hz hI hO g1 g2 hsz hk=>?_
   refine Calls.spliced_nil ?_;have n1:is1.length=ks.length:=by rw[<-v1.length,ci]
   have n2:is2.length=ks.length:=by rw[<-v2.length,kl]
   refine nI (s:={ s1 with heap:=h' }) (knd:=ar X.prog X.w) (I1.ok.hd hc) (yf t1.lt t2.lt) ks (λj x hx=>Ey v1 j x (by simpa using hx)) (by simp;omega) kn (by simp;omega) (by simp;rw[n1];exact fits kz)
    ⟨.inl ⟨_,hz⟩,hI,⟨_,_,hO⟩,g1,g2,t1.to λo e=>hk _ o e,t2.to λo e=>hk _ o e⟩ ⟨_,hz⟩ λh2 t2' d2 f2=>?_
   have lt0:∀ {c o},s1.heap.get? c=some o->c<s1.heap.objs.size:=λe=>u8 e
   have hfree:H1 h'.objs.size=none:=I1.hok.fresh (by rw[hsz];exact Nat.le_add_right _ _);refine ⟨.ref h'.objs.size,_,I1.laid (a:=h'.objs.size) (o:=.dK (ks.zip ys)) (t':=t2') (λc o e=>?_) (by rw[hsz];exact Nat.le_add_right _ _) ⟨?_,?_,_,EJ v2,by simpa using d2⟩,rfl,q _ hfree⟩
   ·have hl:=lt0 e;refine f2 c o (pc (nw hl (Nat.le_add_right _ _))) (pc (nw hl (Nat.le_add_right _ _))) (pc hl) (pc (nw hl (Nat.le_add_right _ _))) (hk c o e)
   ·rw[length_zip];exact fits (Nat.le_trans (Nat.min_le_left _ _) kz)
   ·exact beq_eq_false_iff_ne.mpr (Nat.ne_of_gt (nw I1.big (by rw[hsz];exact Nat.le_add_right _ _)))
section
variable {X:Cx}{Y:M7}{U:St}{H:Hp}{s:Shared}{a:Addr}{kvs:List (Key×V)}{A:Around}{E:M6}
def xO {Q:M6}(I:Inv X Y U H s)(e:Rd H a (.dK kvs))(h:∀ p s',H p=none->Inv X Y U (upd H p (.dK kvs)) s'->Q (.ref p) s'):wpAny (model X.prog X.w) A (call (.type "dict") [.ref a]) Q E s:=by
 obtain ⟨z,hd,vs,rel,dd⟩:=kf I.hok e;refine kt_call_dict hd dd (by rw[<-rel.length];exact z) λh' dd' hs=>?_
 refine h _ _ (I.hok.fresh (pi _)) (I.laid (a:=s.heap.objs.size) (o:=.dK kvs) (t':=s.toks) (λb q hq=>?_) (pi _) (tS z (beq_eq_false_iff_ne.mpr (Ne.symm (pc I.big))) rel dd'));exact (hs.2 b (pc (u8 hq))).trans (tz _ hq)
end
variable {A:Around}
section
variable {X:Cx}{Y:M7}{U:St}{H:Hp}{s:Shared}
def qW {x:V}{u t:Value}(I:Inv X Y U H s)(rx:RelV x u)(ty:ij X.K H x t):∃ P:Heap->Prop,KitX X.K u t P/\P s.heap/\u≠.builtin "__main__.__loader__#opaque":=by
 cases ty with
 |non=>cases (show u=Value.none from rx);exact ⟨_,kitx_none,True.intro,λz=>nomatch z⟩
 |bl y=>cases (show u=Value.bool y from rx);exact ⟨_,kitx_bool,True.intro,λz=>nomatch z⟩
 |int i=>obtain ⟨t,q⟩:=(show ∃ t,u=Value.int i t from rx);cases q;exact ⟨_,kitx_int,True.intro,λz=>nomatch z⟩
 |str y=>obtain ⟨t,q⟩:=(show ∃ t,u=Value.str y t from rx);cases q;exact ⟨_,kitx_str,True.intro,λz=>nomatch z⟩
 |flt y=>obtain ⟨t,q⟩:=(show ∃ t,u=Value.float y t from rx);cases q;exact ⟨_,kitx_float,True.intro,λz=>nomatch z⟩
 | @lst a xs ea=>
  cases (show u=Value.ref a from rx);obtain ⟨_,_,n,_,h1⟩:=(show ay X.prog X.w H s.heap a (.lst xs) from I.hok a _ ea);exact ⟨_,kitx_list,⟨_,h1,rfl⟩,λz=>nomatch z⟩
 | @frz a ob xs ea=>
  cases (show u=Value.ref a from rx);obtain ⟨_,_,_,n,_,h1⟩:=(show ay X.prog X.w H s.heap a (.frz ob (.lst xs)) from I.hok a _ ea);exact ⟨_,kitx_list,⟨_,h1,rfl⟩,λz=>nomatch z⟩
 | @tup a xs ea=>
  cases (show u=Value.ref a from rx);obtain ⟨_,_,_,p⟩:=(show ay X.prog X.w H s.heap a (.tup xs) from I.hok a _ ea);obtain ⟨o,h1,h2,_⟩:=p;exact ⟨_,kitx_tuple,⟨o,h1,h2⟩,λz=>nomatch z⟩
 | @dK a kvs ea=>
  cases (show u=Value.ref a from rx);obtain ⟨_,_,vs,_,p⟩:=(show ay X.prog X.w H s.heap a (.dK kvs) from I.hok a _ ea);obtain ⟨o,es,ep,h1,h2,_⟩:=p;exact ⟨_,kitx_dict,⟨o,h1,h2.1⟩,λz=>nomatch z⟩
 | @dT a kvs ea=>
  cases (show u=Value.ref a from rx);obtain ⟨_,_,xs,_,o,es,ep,h1,h2,_⟩:=(show ay X.prog X.w H s.heap a (.dT kvs) from I.hok a _ ea);exact ⟨_,kitx_dict,⟨o,h1,h2.1⟩,λz=>nomatch z⟩
 | @ins a C dx fs ea cl ha hn htk hm=>
  cases (show u=Value.ref a from rx);obtain ⟨mA,O,_⟩:=ft I.hok ea;obtain ⟨od,J,_⟩:=O.look;exact ⟨_,kitx_own (cl.get _) cl.hd ha hn htk hm,J,λz=>nomatch z⟩
def mX {Q:M6}{u t:Value}{p:Addr}{cs:List Addr}{b:Bool}{P:Heap->Prop}(I:Inv X Y U H s)(Z:KitX X.K u t P)(hp:P s.heap)(hx:u≠.builtin "__main__.__loader__#opaque")
  (ep:H p=some (.tup (cs.map V.ref))) (e:kitAny X.K t (cs.map Value.ref)=some b) (h:∀ tk,Q (.bool b) { s with toks:=tk }):wpAny (model X.prog X.w) A (call (.builtin "isinstance") [u,.ref p]) Q E s:=by
 obtain ⟨its,r,pl,_⟩:=I.tuple (aS.of ep);have er:∀ {cs:List Addr}{us:List Value},Vals (cs.map V.ref) us->us=cs.map Value.ref:=by
  intro cs
  induction cs with
  |nil=>intro us h;cases h;rfl
  |cons c cs ih=>
   intro us h;cases h with
   |cons r1 r2=>
    rw[ih r2,show _=Value.ref c from r1]
    rfl
 obtain rfl:=er r;obtain ⟨⟨c,d,da,sl⟩,h1,h2,n,h3⟩:=(show s.heap.IsTuple p (cs.map Value.ref).toArray from pl);subst h2;obtain rfl:=h3;exact kia_tup Z I.bO hp h1 e hx h
end
def Iq (d:Addr)(hd:(d ==sysModules)=false)(dd:Option Addr)(ep:Nat)(sl:Array (Option Value)):Meets (Builtin.«dict.__eq__» ⟨[.ref d,.ref d],[]⟩) (λ_ R s=>s.heap.get? d=some ⟨.type "dict",dd,.dict #[] ep,sl⟩/\R (.ok (.ret (.bool true))) s):=by
 intro prog w A R s hs;obtain ⟨h,g,dp,tt,os⟩:=s;obtain ⟨ho,q⟩:=hs;have hT:(⟨h,g,dp,tt,os⟩:Shared).TypeIs (.ref d) "dict":=⟨_,ho,rfl⟩;unfold Builtin.«dict.__eq__»
 k_delta "equality"
 unfold Builtin.Dict.dictSlotArgs;refine ad (ad (wpAny_notOrdered_dict hT ?_));show wpAny _ _ (pure (Value.ref d,[Value.ref d]) >>= _) _ _ _;refine ad (am (am ?_));have hi:=PySem.F.kt_sub_dict;show wpAny _ _ (isInstance (.ref d) (.type "dict") >>= _) _ _ _;unfold Builtin.Dict.samePairs;simp only[Std.Legacy.Range.forIn_eq_forIn_range']
 repeat (any_goals first|assumption|wp_step)
variable {dd:Option Addr}{sl:Array (Option Value)}
def J0 (hd:(d ==sysModules)=false){ep:Nat}(ho:s.heap.get? d=some ⟨.type "dict",dd,.dict #[] ep,sl⟩) (hu:A.units<cLine):SeqAt.RcAt A s (.ref d) (.ref d) true:=λprog w E Q h=>
 richCompare_meets_room (op:=.Eq) ⟨_,ho,rfl⟩ ⟨_,ho,rfl⟩ PySem.F.slot_dict_eq PySem.F.entry_dict_eq (PySem.F.args_dict_eq_2 _ _) (Iq d hd dd ep sl) ⟨ho,show Value.bool true≠Value.notImplemented/\Q (.bool true) s from ⟨(λx=>nomatch x),h⟩⟩ hu
abbrev rQ (K:W.Frag)(H:Hp)(a:Addr):Prop:=(∃ xs,bc K H a xs)\/(∃ xs,aS K H a xs)\/H a=some (.dK [])
def BG {a:Addr}(I:Inv X Y U H s)(h:rQ X.K H a)(hu:A.units+2<cLine):SeqAt.RcAt A s (.ref a) (.ref a) true:=by
 rcases h with ⟨xs,h⟩|⟨xs,h⟩|h
 ·obtain ⟨ia,ra,pa,_⟩:=I.list h;have rc:=SeqAt.RcAt.lists (A:=A) (e:=λ_=>true) pa.isList pa.isList rfl nofun λj h1 h2=>SeqAt.EqAt.same _
  have e:(List.range ia.toArray.size).all (λ_=>true)=true:=by simp
  rwa [e] at rc
 ·obtain ⟨ia,ra,pa,_⟩:=I.tuple h;have rc:=SeqAt.RcAt.tuples (A:=A) (e:=λ_=>true) (show s.heap.IsTuple a ia.toArray from pa) (show s.heap.IsTuple a ia.toArray from pa) nofun λj h1 h2=>SeqAt.EqAt.same _
  have e:((List.range (min ia.toArray.size ia.toArray.size)).all (λ_=>true)&&ia.toArray.size ==ia.toArray.size)=true:=by simp
  rwa [e] at rc
 ·obtain ⟨z,hd,vs,rel,dd⟩:=kf I.hok (.inl h);cases rel;obtain ⟨⟨c,d,da,sl⟩,es,ep,ho,hx,he,_,hp,_⟩:=dd;have e0:es=#[]:=by
   cases hp':es.toList with
   |nil=>exact Array.toList_eq_nil_iff.mp hp'
   |cons a b=>rw[hp'] at hp;cases hp
  subst e0;obtain rfl:da=.dict #[] ep:=he;obtain ⟨rfl,_⟩:=hx;exact J0 hd ho nofun
section
variable {prog:Program}{w:World}{A:Around}{E:M6}{s:Shared}{T:String}{r d:Addr}{n:Nat}{P:Nat->Value->Prop}{OK:Heap->Prop}
def qo {Q:List Value->Shared->Prop}(K:KdlSrc prog w T r d n P OK)(hh:A.handled=none)(hok:OK s.heap)(hn:n<=bn)
  (hQ:∀ h' tk (acc:Array Value),(∀ b o,s.heap.get? b=some o->h'.get? b=some o)->ItemsOf P acc n->Q acc.toList { s with heap:=h',toks:=tk }):wpAny (model prog w) A (collect (.ref r)) Q E s:=by
 have hlt:=K.there _ hok;unfold collect;refine ad (wpAny_runValue (codeAny_builtin PySem.F.entry_proto_collect ?_));rw[Around.under_plainId PySem.F.plain_proto_collect _];show wpAny _ A.in1 (newList [] >>= λz=>again (.builtin "list.__iadd__" ⟨[z,.ref r],[]⟩)) _ _ s;refine ad (wpAny_newObj_type (am ⟨plainId_quiet PySem.F.plain_list_iadd _,codeAny_builtin PySem.F.entry_list_iadd ?_⟩));rw[Around.under_plainId PySem.F.plain_list_iadd _];show wpAny _ A.in1 (Builtin.List.listExtendWith (.ref s.heap.objs.size) (.ref r) (.ref s.heap.objs.size)) _ _ _;have hS:(s.heap.push { cls:=.type "list",data:=.seq ([]:List Value).toArray }).get? s.heap.objs.size=some { cls:=.type "list",data:=.seq #[] 0 }:=ul s.heap rfl;have fin:∀ (x:Result) (s':Shared),(x=.ok (.ret (.ref s.heap.objs.size))/\∃ h' tk acc c',s'={ s with heap:=h',toks:=tk }/\(∀ b o,s.heap.get? b=some o->h'.get? b=some o)/\h'.get? s.heap.objs.size=some { cls:=.type "list",dict:=none,data:=.seq acc c',slots:=#[] }/\ItemsOf P acc n)->
   wpAny (model prog w) A (match Value.ref s.heap.objs.size with
    |Value.ref a=>do
     match (<-load a).data with
      |Data.seq xs _=>pure xs.toList
      |_=>unsupported "internal:collect"
    |_=>unsupported "internal:collect") Q E s':=λx s' ⟨_,h',tk,acc,c',e,hk,ho,hi⟩=>by
  subst e;show wpAny _ A (load s.heap.objs.size >>= _) _ _ _;exact ad (wpAny_load ho (am (hQ h' tk acc hk hi)))
 refine wpAny_mono (kdl_extend (A:=A) (s:={ s with heap:=s.heap.push { cls:=.type "list",data:=.seq ([]:List Value).toArray } })
  (R:=λx s'=>x=.ok (.ret (.ref s.heap.objs.size))/\∃ h' tk acc c',s'={ s with heap:=h',toks:=tk }/\(∀ b o,s.heap.get? b=some o->h'.get? b=some o)/\h'.get? s.heap.objs.size=some { cls:=.type "list",dict:=none,data:=.seq acc c',slots:=#[] }/\ItemsOf P acc n)
  K hh (K.keep _ _ hok λb _ o e=>tz _ e) s.heap.objs.size (Nat.ne_of_gt hlt.1) (Nat.ne_of_gt hlt.2) (.ref s.heap.objs.size) 0 hS (λh' tk acc c' hk ho hi=>⟨rfl,h',tk,acc,c',rfl,λb o e=>hk b o (pc (u8 e)) (tz _ e),ho,hi⟩) hn) (λfi s' h=>?_) (λe s' h=>?_)
 ·cases fi with
  |done f=>
   have hf:=h.1;cases hf;exact fin _ _ h
  |again c'=>exact ⟨h.1,codeAny_mono h.2 λx s'' hx=>by
    have e:=hx.1;subst e;exact fin _ _ hx⟩
 ·exact absurd h.1 (by simp)
def lx {Q₁:M6}(K:KdlSrc prog w T r d n P OK)(hT0:(T =="tuple")=false) (hh:A.handled=none) (hok:OK s.heap) (hn:n<=bn)
  (h:∀ (h':Heap) (tk:Nat) (acc:Array Value),(∀ b o,s.heap.get? b=some o->h'.get? b=some o)->ItemsOf P acc n->Q₁ (.ref h'.objs.size) { s with heap:=h'.push { cls:=.type "tuple",data:=.seq acc },toks:=tk }):
  codeAny (model prog w) A (.call (.builtin "tuple.__new__") ⟨[.type "tuple",.ref r],[]⟩) (wants Q₁ E) s:=by
 refine codeAny_of_tree ?_;show wpAny _ A.in1 (do checkBuiltinCall "tuple.__new__" ⟨[.type "tuple",.ref r],[]⟩;again (.builtin "tuple.__new__" ⟨[.type "tuple",.ref r],[]⟩)) _ _ s;refine ad (wpAny_of_eq (PySem.F.newCall_tuple_1 _) (am ⟨plainId_quiet PySem.F.plain_tuple_new _,codeAny_builtin PySem.F.entry_tuple_new ?_⟩));rw[Around.under_plainId PySem.F.plain_tuple_new _];have h1:=sub_tuple_self;have h2:=init_tuple_lookup;have h3:=madeHere_tuple;have hTI:=K.type s hok;have h4:=K.notTuple
 wp_walk using wpAny_typeOf hTI,qo (A:=A.in1) K hh hok hn
 intro h' tk acc hk hi;show wpAny _ _ (Builtin.Tuple.tupleExact acc.toList.toArray >>= λz=>ret z) _ _ _;unfold Builtin.Tuple.tupleExact;have e:acc.toList.toArray=acc:=Array.toArray_toList;rw[e];refine ad (wpAny_newObj_type (am ?_) (by show acc.size<=bn;rw[hi.1];exact hn));exact h h' tk acc hk hi
def j5 {Q:M6}(K:KdlSrc prog w T r d n P OK)(hT0:(T =="tuple")=false) (hh:A.handled=none) (hok:OK s.heap) (hn:n<=bn)
  (h:∀ (h':Heap) (tk:Nat) (acc:Array Value),(∀ b o,s.heap.get? b=some o->h'.get? b=some o)->ItemsOf P acc n->Q (.ref h'.objs.size) { s with heap:=h'.push { cls:=.type "tuple",data:=.seq acc },toks:=tk }):
  wpAny (model prog w) A (call (.type "tuple") [.ref r]) Q E s:=by
 refine callType_codes (Q₁:=λz s₁=>s₁.TypeIs z "tuple"/\Q z s₁) PySem.F.called_tuple (PySem.F.typeCall_tuple_1 _) PySem.F.entry_object_init (lx K hT0 hh hok hn λh' tk acc hk hi=>⟨⟨_,ul _ rfl,rfl⟩,h h' tk acc hk hi⟩) λz s₁ g=>?_
 exact ⟨g.1,PySem.F.args_object_init_2 z _,object_init_meets PySem.F.called_tuple.init.lookup PySem.F.called_tuple.made (by decide) prog w A.in1 _ s₁ ⟨g.1,rfl,g.2⟩⟩
end
def xR:bootBuiltins "list"=some (.type "list"):=by decide+kernel
def wQ:bootBuiltins "tuple"=some (.type "tuple"):=by decide+kernel
abbrev BU (tp:Bool)(xs:List V):HO:=match tp with
 |true=>.tup xs
 |false=>.lst xs
abbrev kD (tp:Bool):String:=match tp with
 |true=>"tuple"
 |false=>"list"
abbrev DK (tp:Bool):Str:=match tp with
 |true=>"tuple"
 |false=>"list"
abbrev DU (tp:Bool)(x:V)(H:Hp)(Q:VK):Prop:=∃ d kvs,x=.ref d/\H d=some (.dK kvs)/\∀ p,H p=none->Q (.ref p) (upd H p (BU tp (kvs.map (·.2))))
def oH:∀ {kvs:List (Key×V)}{vs:List (Key×Value)},KV kvs vs->Vals (kvs.map (·.2)) (vs.map (·.2))
 |_,_,.nil=>.nil
 |_,_,.cons r rs=>.cons r.2 (oH rs)
def vG {Q:VK}{kvs:List (Key×V)}(tp:Bool)(hc:X.calm=true)(I:Inv X Y U H s)(e:H d=some (.dK kvs))(q:∀ p,H p=none->Q (.ref p) (upd H p (BU tp (kvs.map (·.2))))):
  wpAny (model X.prog X.w) X.A (call (.builtin "dict.values") [.ref d]) (λv s1=>wpAny (model X.prog X.w) X.A (call (.type (kD tp)) [v]) (EP X Y U Q) X.xe s1) X.xe s:=by
 obtain ⟨hz,hd,vs,rel,dd⟩:=kf I.hok (.inl e);refine call_meetsIn PySem.F.slot_dict_values dd.typeIs PySem.F.entry_dict_values (PySem.F.args_dict_values_1 _) (meets_dict_values (ar X.prog X.w) d hd) ⟨⟨vs,dd⟩,?_⟩;obtain ⟨o,es,ep,ho,hx,he,hk,hp,hn⟩:=dd;have hA:s.heap.DictAt (ar X.prog X.w) d vs ep:=⟨o,es,ho,hx,he,hk,hp,hn⟩;have hok:(s.heap.push { cls:=.type "dict_values",data:=.fields #[.ref d] }).IsValuesView s.heap.objs.size d/\(s.heap.push { cls:=.type "dict_values",data:=.fields #[.ref d] }).DictAt (ar X.prog X.w) d vs ep:=⟨⟨_,ul _ rfl,rfl,rfl⟩,hA.push _⟩;have hl:vs.length<=bn:=by rw[<-rel.length];exact hz
 have hv:∀ (acc:Array Value),ItemsOf (λi v=>∃ k,vs[i]? =some (k,v)) acc vs.length->acc.toList=vs.map (·.2):=λacc hi=>kdl_vals_eq acc.toList (by rw[Array.length_toList];exact hi.1) λj v hj=>hi.2 j v (by rw[<-Array.getElem?_toList];exact hj)
 have I0:Inv X Y U H { s with heap:=s.heap.push { cls:=.type "dict_values",data:=.fields #[.ref d] } }:=I.kept (t':=s.toks) λb u hb=>tz _ hb
 have hlen:(kvs.map (·.2)).length<=bn:=by rw[ci];exact hz
 cases tp with
 |false=>
  refine kdl_call (s:={ s with heap:=s.heap.push { cls:=.type "dict_values",data:=.fields #[.ref d] } }) (kdl_values (prog:=X.prog) (w:=X.w) (knd:=ar X.prog X.w) (r:=s.heap.objs.size) (d:=d) (kvs:=vs) (ep:=ep)) (I.ok.hd hc) hok hl λh' tk acc c' hk' hD hi=>?_
  have ea:=hv acc hi;refine ⟨.ref _,_,I0.laid (t':=tk) hk' (pi _) (show ay X.prog X.w _ h' _ (.lst (kvs.map (·.2))) from ⟨hlen,acc.toList,c',by rw[ea];exact oH rel,by rw[Array.toArray_toList];exact hD⟩),rfl,q _ (I0.hok.fresh (pi _))⟩
 |true=>
  refine j5 (s:={ s with heap:=s.heap.push { cls:=.type "dict_values",data:=.fields #[.ref d] } }) (kdl_values (prog:=X.prog) (w:=X.w) (knd:=ar X.prog X.w) (r:=s.heap.objs.size) (d:=d) (kvs:=vs) (ep:=ep)) (by decide) (I.ok.hd hc) hok hl λh' tk acc hk' hi=>?_
  have ea:=hv acc hi;have I1:Inv X Y U H { s with heap:=h',toks:=tk }:=I0.kept (t':=tk) hk';have I2:Inv X Y U (upd H h'.objs.size (.tup (kvs.map (·.2)))) { s with heap:=h'.push { cls:=.type "tuple",data:=.seq acc },toks:=tk }:=
   I1.laid (t':=tk) (λb u hb=>tz _ hb) (pi _) (show ay X.prog X.w _ _ _ (.tup (kvs.map (·.2))) from ⟨hlen,acc.toList,by rw[ea];exact oH rel,by rw[Array.toArray_toList];exact IsTup.new _ _⟩)
  exact ⟨.ref h'.objs.size,_,I2,rfl,q _ (I1.hok.fresh (pi _))⟩
abbrev Im (tp:Bool)(ta:TE):TE:=λU H Q=>ta U H λx H1=>DU tp x H1 Q
def Dq {a:Expr}{ta:TE}{apos cpos:Pos}(tp:Bool)(hc:X.calm=true)(hg:Gl X (DK tp))(hm:X.mg (DK tp)=none)(ha:PE X a ta)(hb:attributeBase a "values" X.env (eval a X.env)=eval a X.env) (hl:(apos.endLine ==cpos.line)=true):
  PE X (.Call (.Name (DK tp) p) [.Call (.Attribute a "values" apos) [] [] cpos] [] pos) (Im tp ta):=by
 intro Y s U H Q I h;have h1:bm [.Call (.Attribute a "values" apos) [] [] cpos] X.env=[(false,eval (.Call (.Attribute a "values" apos) [] [] cpos) X.env)]:=rfl;have go:wpAny (model X.prog X.w) X.A (eval (.Call (.Attribute a "values" apos) [] [] cpos) X.env) (λv s1=>wpAny (model X.prog X.w) X.A (call (.type (kD tp)) [v]) (EP X Y U Q) X.xe s1) X.xe s:=by
  refine wpAny_Call_method0_late hb hl (ax (ha Y s U H _ I h) λv s1 ⟨x,H1,I1,r1,q1⟩=>?_);obtain ⟨d,kvs,ex,e,q⟩:=q1;subst ex;obtain ⟨g1,g2⟩:=sZ (T:="dict") I1 r1 (.inr (.inr (.inl ⟨rfl,.inl ⟨kvs,e⟩⟩)));cases r1;exact ⟨"dict","dict.values",PySem.F.plainAttrs_dict,PySem.F.slot_dict_values,PySem.F.type_dict_values,g1,g2,Calls.callWith_builtin rfl (PySem.evalArgs_none (vG tp hc I1 e q))⟩
 cases tp with
 |true=>
  refine Call_ (bN I hg hm wQ (PyProof.Rows.callWith_type1 ?_ h1 rfl));rw[h1];show wpAny _ _ (spliced ((false,eval (.Call (.Attribute a "values" apos) [] [] cpos) X.env)::backTo pos [])) _ _ _;exact Calls.spliced_cons (ax go λv s1 z=>Calls.spliced_nil z)
 |false=>
  refine Call_ (bN I hg hm xR (PyProof.Rows.callWith_type1 ?_ h1 rfl));rw[h1];show wpAny _ _ (spliced ((false,eval (.Call (.Attribute a "values" apos) [] [] cpos) X.env)::backTo pos [])) _ _ _;exact Calls.spliced_cons (ax go λv s1 z=>Calls.spliced_nil z)
abbrev xI (K:W.Frag)(C:Addr):Bool:=findIn K (.ref C) "__eq__" ==some (some (.builtin "object.__eq__"))&&subIn K (.ref C) (.type "str") ==some false&&subIn K (.ref C) (.type "object") ==some true
def rZ {prog:Program}{w:World}{K:Frag}{C:Addr}{R:Result->Shared->Prop}(X:K.In s.heap)(hm:makesIn K C=true)(hi:findIn K (.ref C) "__init__"=some (some (.builtin "object.__init__")))
  (h:R (.ok (.ret (.ref (s.heap.objs.size+1)))) { s with heap:=(s.heap.push emptyDict).push (instObj C s.heap.objs.size) }):codeAny (model prog w) A (.call (.ref C) ⟨[],[]⟩) R s:=by
 obtain ⟨hh,g,d,t,os⟩:=s;have Y:=makes_of (M:=model prog w) X hm;refine make_core Y (looks_findIn X hi) (λz=>Looks.of_pure (oi_bind z)) (.inr ⟨rfl,rfl⟩) ?_;have k:∀ b o,hh.get? b=some o->((hh.push emptyDict).push (instObj C hh.objs.size)).get? b=some o:=λb o e=>tz _ (tz _ e)
 have hx:((hh.push emptyDict).push (instObj C hh.objs.size)).get? (hh.objs.size+1)=some (instObj C hh.objs.size):=by heap_get
 have t1:Looks (model prog w) ((hh.push emptyDict).push (instObj C hh.objs.size)) (typeOf (.ref (hh.objs.size+1))) (.ref C):=Looks.andThen (Looks.ld hx) .now;have t2:Looks (model prog w) ((hh.push emptyDict).push (instObj C hh.objs.size)) (isInstance (.ref (hh.objs.size+1)) (.type "object")) true:=t1.andThen (Y.top.keeps k);refine codeAny_call_builtin oi_plain entry_oi (@check_slot (model prog w) _ _ _ "object.__init__" "object" "__init__" (.ref (hh.objs.size+1)) [] [] _ oi_kind oi_split t2 (oi_args _) ?_);rw[oi_run];exact am ⟨rfl,h⟩
structure Mh (K:Frag) (C:Addr):Prop where
 makes:makesIn K C=true
 init:findIn K (.ref C) "__init__"=some (some (.builtin "object.__init__"))
 kp:keepIn K (.ref C)=true
abbrev Lk (C:Addr):TE:=λ_ H Q=>∀ x dx,H x=none->H dx=none->dx≠x->Q (.ref x) (upd (upd H dx (.own x)) x (.ins C dx []))
def Ar {C:Addr}{x:Str}(M:Mh X.K C)(hg:Gl X x)(hm:X.mg x=some (.ref C))(hdb:(x ==("__debug__":Str))=false):PE X (.Call (.Name x p) [] [] pos) (Lk C):=by
 intro Y s U H Q I h;refine bv (bE I hg hm ?_ hdb);refine W.callWith_K0 I.bO M.kp (wpAny_call (rZ I.bO M.makes M.init ?_));have I2:=Inv.made (C:=C) I;exact ⟨.ref (s.heap.objs.size+1),_,I2,rfl,h (s.heap.objs.size+1) s.heap.objs.size (I.hok.fresh (Nat.le_succ _)) (I.hok.fresh (pi _)) (pc (Nat.lt_succ_self _))⟩
@[reducible]def VV:List (V×V)->List (Value×Value)->Prop:=Paired λp q=>RelV p.1 q.1/\RelV p.2 q.2
abbrev PQ (X:Cx)(pos:Pos)(keys:List (Option Expr))(values:List Expr)(t:St->Hp->(List (V×V)->Hp->Prop)->Prop):Prop:=
 ∀ (Y:M7) (s:Shared) (U:St) (H:Hp) (Q:List (V×V)->Hp->Prop),Inv X Y U H s->t U H Q->
  wpAny (model X.prog X.w) X.A (evalPairs (pairTrees keys values X.env pos)) (λvs s'=>∃ ps H',Inv X Y U H' s'/\VV ps vs/\Q ps H') X.xe s
def G4:PQ X pos [] [] (λ_ H Q=>Q [] H):=λY s U H Q I h=>pairTrees_nil_walk ⟨[],H,I,.nil,h⟩
variable {t:St->Hp->(List (V×V)->Hp->Prop)->Prop}{vs:List Expr}
def Cn {k v:Expr}{ks:List (Option Expr)}{tk tv:TE}(hk:PE X k tk)(hv:PE X v tv)(hr:PQ X pos ks vs t):
  PQ X pos (some k::ks) (v::vs) (λU H Q=>tk U H λx H1=>tv U H1 λy H2=>t U H2 λps H3=>Q ((x,y)::ps) H3):=λY s U H Q I h=>
 pairTrees_cons_walk (ax (hk Y s U H _ I h) λu s1 ⟨x,H1,I1,rx,q1⟩=>ax (hv Y s1 U H1 _ I1 q1) λw2 s2 ⟨y,H2,I2,ry,q2⟩=>
  ax (hr Y s2 U H2 _ I2 q2) λws s3 ⟨ps,H3,I3,rel,q3⟩=>⟨(x,y)::ps,H3,I3,.cons ⟨rx,ry⟩ rel,q3⟩)
abbrev gm (kvs more:List (Key×V)):List (Key×V):=more.foldl (λacc kv=>putK acc kv.1 kv.2) kvs
def KV.merge:∀ {more:List (Key×V)}{rs:List (Key×Value)}{kvs:List (Key×V)}{vs:List (Key×Value)},KV more rs->KV kvs vs->KV (gm kvs more) (merged vs rs):=by
 intro more rs kvs vs r;unfold KV at r
 induction r generalizing kvs vs with
 |nil=>intro q;exact q
 | @cons p q ps qs h t ih=>
  intro r0;have e:KV (putK kvs p.1 p.2) (stored vs q.1 q.2):=by
   have:=r0.put p.1 h.2;rw[<-h.1];exact this
  exact ih e
def fO:∀ (more kvs:List (Key×V)),(gm kvs more).length<=kvs.length+more.length
 | [],kvs=>by show kvs.length<=kvs.length+0;omega
 |p::r,kvs=>by
  have h1:=fO r (putK kvs p.1 p.2);have h2:=d5 kvs p.1 p.2;show (gm (putK kvs p.1 p.2) r).length<=_;rw[length_cons];omega
def kG {P:Program}{w:World}:∀ {kvs:List (Key×V)}{ws:List (Value×Value)},VV (kvs.map λkv=>(kV kv.1,kv.2)) ws->∃ rs,Carries (ar P w) ws rs/\KV kvs rs
 | [],_,r=>by rw[List.map_nil] at r;cases r;exact ⟨[],True.intro,.nil⟩
 |p::kvs,_,r=>by
  rw[map_cons] at r;cases r with
  | @cons a b as bs h t=>
   obtain ⟨rs,c,q⟩:=kG (P:=P) (w:=w) t;obtain ⟨b1,b2⟩:=b;exact ⟨(p.1,b2)::rs,⟨ma h.1,rfl,c⟩,.cons ⟨rfl,h.2⟩ q⟩
abbrev IL (t:St->Hp->(List (V×V)->Hp->Prop)->Prop):TE:=λU H Q=>∀ p,H p=none->t U (upd H p (.dK [])) λps H2=>H2 p=some (.dK [])/\∃ kvs:List (Key×V),ps=kvs.map (λkv=>(kV kv.1,kv.2))/\kvs.length<=15/\Q (.ref p) (upd H2 p (.dK (gm [] kvs)))
def B4 {keys:List (Option Expr)}{values:List Expr}(h:PQ X pos keys values t)(hall:keys.all (·.isSome)=true)(hl:keys.length=values.length)(h0:keys≠[])
  (h15:keys.length<=15):PE X (.Dict keys values pos) (IL t):=by
 intro Y s U H Q I q;have hn:=I.hok.fresh (pi s.heap.objs.size);have I1:=I.laid (a:=s.heap.objs.size) (o:=.dK []) (h':=s.heap.push { cls:=.type "dict",data:=.dict #[] }) (t':=s.toks) (λ_ _ q=>tz _ q) (pi _) (yQ s.heap I.big);refine wpAny_Dict_walk (knd:=ar X.prog X.w) hall hl h0 h15 (ax (h Y _ U _ _ I1 (q _ hn)) λws s2 ⟨ps,H2,I2,rel,e,kvs,ep,lk,q2⟩=>?_);subst ep;obtain ⟨rs,c,rk⟩:=kG (P:=X.prog) (w:=X.w) rel;obtain ⟨z,hd,vs0,r0,dd⟩:=uM I2.hok e;cases r0;refine ⟨rs,c,dd,λh' dd' hs=>⟨.ref s.heap.objs.size,_,?_,rfl,q2⟩⟩;have hz:(gm [] kvs).length<=bn:=by
  have h1:=fO kvs [];rw[length_nil] at h1;rw[sizeLine_eq];omega
 have he:∃ q,h'.get? s.heap.objs.size=some q:=let ⟨q,_,_,hq,_⟩:=dd';⟨q,hq⟩;exact nY I2 (by rw[e];exact True.intro) hs he (tS hz hd (rk.merge .nil) dd')
abbrev yq:Expr->Nat
 | .Tuple vs _ _=>vs.length
 |_=>0
abbrev Hz (sc:Scope)(tg v:Expr)(ns:List Str):Bool:=match swappedStores [tg] v { scope:=sc,locals:=0,globals:=0,cells:=[] } with
 | .pure (some l)=>l ==ns&&decide (yq v=ns.length)
 |_=>false
variable {tg:Expr}{ns:List Str}
def Ai {env:Env}{v:Expr}(h:Hz env.scope tg v ns=true):swappedStores [tg] v env=pure (some ns):=by
 have e:swappedStores [tg] v env=swappedStores [tg] v { scope:=env.scope,locals:=0,globals:=0,cells:=[] }:=by
  obtain ⟨sc,a,b,c,d,f,g,i,j⟩:=env
  rfl
 rw[e];unfold Hz at h
 split at h
 ·rename_i l e2;rw[mo] at h;rw[e2,beq_iff_eq.mp h.1]
  rfl
 ·cases h
variable {sc:Scope}
def ud {v:Expr}(h:Hz sc tg v ns=true):yq v=ns.length:=by
 unfold Hz at h
 split at h
 ·rw[mo,decide_eq_true_eq] at h;exact h.2
 ·cases h
def CP {x y:Str}(h:Hz sc tg (.Tuple vs k p) [x,y]=true):∃ a b,vs=[a,b]:=by
 have h:=ud h
 match vs,h with
 | [a,b],_=>exact ⟨a,b,rfl⟩
def wm {x y z:Str}(h:Hz sc tg (.Tuple vs k p) [x,y,z]=true):∃ a b c,vs=[a,b,c]:=by
 have h:=ud h
 match vs,h with
 | [a,b,c],_=>exact ⟨a,b,c,rfl⟩
abbrev HZ (i j:Nat)(ta:TA):TS:=λD U H=>ta U H λvs H1=>∃ v w,vs=[v,w]/\D.nx ((U.set i (some v)).set j (some w)) H1
def CT {i j:Nat}{x y:Str}{a b:Expr}{px py pt:Pos} {kt k2 pt2} (hc:X.calm=true)(hN:X.N.Nodup)(hi:X.N[i]? =some x)(hj:X.N[j]? =some y)(hij:i≠j)
  (hx:X.env.scope.names.lookup x=some .local) (hy:X.env.scope.names.lookup y=some .local) (ha:PA X [a,b] ta)
  (hw:swappedStores [.Tuple [.Name x px,.Name y py] kt pt] (.Tuple [a,b] k2 pt2) X.env=pure (some [x,y]))
  (hs:swapsWithSole [.Tuple [.Name x px,.Name y py] kt pt] (.Tuple [a,b] k2 pt2) pos.line X.env=pure false:=by rfl):
  PS X (.Assign [.Tuple [.Name x px,.Name y py] kt pt] (.Tuple [a,b] k2 pt2) pos) (HZ i j ta):=by
 intro Y s U H D I h;rw[exec_Assign_arm];refine ad (wpAny_standAt ?_);rw[hs];refine ad (am ?_);rw[if_neg (by decide)];refine ad (Tuple_ (ax (ha _ Y s U H _ I h) λus s1 ⟨vs,H1,I1,r1,q1⟩=>?_));obtain ⟨v,w,e1,q1⟩:=q1;subst e1;obtain ⟨u1,u2,rfl,rv,rw'⟩:∃ u1 u2,us=[u1,u2]/\RelV v u1/\RelV w u2:=by
  cases r1 with
  |cons p q=>
   cases q with
   |cons p' q'=>
    cases q';exact ⟨_,_,rfl,p,p'⟩
 refine wpAny_newObj_type ?_ (by show 2<=bn;decide);have I2:Inv X Y U H1 { s1 with heap:=s1.heap.push { cls:=.type "tuple",data:=.seq [u1,u2].toArray } }:=I1.kept (t':=s1.toks) λb o e=>tz _ e
 rw[hw];refine ad (am ?_);show wpAny (model X.prog X.w) X.A (do rule "assign.swapped-stores";let items <-unpackItems (.ref s1.heap.objs.size) 2 none;assignInOrder [λv=>bindName X.env y v,λv=>bindName X.env x v] items.reverse;pure Flow.next) _ _ _;refine ad (wpAny_rule (ad (unpackItems_tuple (items:=#[u1,u2]) (I.ok.hd hc) (IsTup.new s1.heap _) λh' hx'=>?_)));have I3:=I2.kept (h':=h') (t':=s1.toks) λb o e=>hx' b o (pc (u8 e)) e
 show wpAny _ _ (assignInOrder [λv=>bindName X.env y v,λv=>bindName X.env x v] [u2,u1] >>= λ_=>pure Flow.next) _ _ _;refine ad (assignInOrder_cons (wpAny_bindName (bJ I3 hN hj (.inl hy) rw' (λs2 I4=>?_) (.inr hy))));refine assignInOrder_cons (wpAny_bindName (bJ I4 hN hi (.inl hx) rv (λs3 I5=>assignInOrder_nil (am ?_)) (.inr hx)));rw[set_comm _ _ (Ne.symm hij)] at I5;exact ⟨_,H1,I5,q1⟩
abbrev Ip (i j l:Nat)(ta:TA):TS:=λD U H=>ta U H λvs H1=>∃ v w x,vs=[v,w,x]/\D.nx (((U.set i (some v)).set j (some w)).set l (some x)) H1
def BZ {i j l:Nat}{x y z:Str}{a b c:Expr}{px py pz pt:Pos} {kt k2 pt2} (hc:X.calm=true)(hN:X.N.Nodup)(hi:X.N[i]? =some x)(hj:X.N[j]? =some y)(hl:X.N[l]? =some z)(hij:i≠j)(hil:i≠l)(hjl:j≠l)
  (hx:X.env.scope.names.lookup x=some .local) (hy:X.env.scope.names.lookup y=some .local) (hz:X.env.scope.names.lookup z=some .local) (ha:PA X [a,b,c] ta)
  (hw:swappedStores [.Tuple [.Name x px,.Name y py,.Name z pz] kt pt] (.Tuple [a,b,c] k2 pt2) X.env=pure (some [x,y,z]))
  (hs:swapsWithSole [.Tuple [.Name x px,.Name y py,.Name z pz] kt pt] (.Tuple [a,b,c] k2 pt2) pos.line X.env=pure false:=by rfl):
  PS X (.Assign [.Tuple [.Name x px,.Name y py,.Name z pz] kt pt] (.Tuple [a,b,c] k2 pt2) pos) (Ip i j l ta):=by
 intro Y s U H D I h;rw[exec_Assign_arm];refine ad (wpAny_standAt ?_);rw[hs];refine ad (am ?_);rw[if_neg (by decide)];refine ad (Tuple_ (ax (ha _ Y s U H _ I h) λus s1 ⟨vs,H1,I1,r1,q1⟩=>?_));obtain ⟨v,w,x',e1,q1⟩:=q1;subst e1;obtain ⟨u1,u2,u3,rfl,rv,rw',rx'⟩:∃ u1 u2 u3,us=[u1,u2,u3]/\RelV v u1/\RelV w u2/\RelV x' u3:=by
  cases r1 with
  |cons p q=>
   cases q with
   |cons p' q'=>
    cases q' with
    |cons p2 q2=>
     cases q2;exact ⟨_,_,_,rfl,p,p',p2⟩
 refine wpAny_newObj_type ?_ (by show 3<=bn;decide);have I2:Inv X Y U H1 { s1 with heap:=s1.heap.push { cls:=.type "tuple",data:=.seq [u1,u2,u3].toArray } }:=I1.kept (t':=s1.toks) λb o e=>tz _ e
 rw[hw];refine ad (am ?_);show wpAny (model X.prog X.w) X.A (do rule "assign.swapped-stores";let items <-unpackItems (.ref s1.heap.objs.size) 3 none;assignInOrder [λv=>bindName X.env z v,λv=>bindName X.env y v,λv=>bindName X.env x v] items.reverse;pure Flow.next) _ _ _;refine ad (wpAny_rule (ad (unpackItems_tuple (items:=#[u1,u2,u3]) (I.ok.hd hc) (IsTup.new s1.heap _) λh' hx'=>?_)));have I3:=I2.kept (h':=h') (t':=s1.toks) λb o e=>hx' b o (pc (u8 e)) e
 show wpAny _ _ (assignInOrder [λv=>bindName X.env z v,λv=>bindName X.env y v,λv=>bindName X.env x v] [u3,u2,u1] >>= λ_=>pure Flow.next) _ _ _;refine ad (assignInOrder_cons (wpAny_bindName (bJ I3 hN hl (.inl hz) rx' (λs2 I4=>?_) (.inr hz))));refine assignInOrder_cons (wpAny_bindName (bJ I4 hN hj (.inl hy) rw' (λs3 I5=>?_) (.inr hy)));refine assignInOrder_cons (wpAny_bindName (bJ I5 hN hi (.inl hx) rv (λs4 I6=>assignInOrder_nil (am ?_)) (.inr hx)));rw[set_comm _ _ (Ne.symm hij),set_comm _ _ (Ne.symm hil),set_comm _ _ (Ne.symm hjl)] at I6;exact ⟨_,H1,I6,q1⟩
abbrev sA (K:W.Frag)(C:Addr):Bool:=findIn K (.ref C) "__ne__" ==some (some (.builtin "object.__ne__"))&&xI K C
section
variable {A:Around}{s:Shared}{l C dx:Addr}{od:Option Obj}{K:W.Frag}{prog:Program}{w:World}{E:M6}
def Iv (X:K.In s.heap)(I:InstAt s.heap l (instObj C dx) C od)(h1:findIn K (.ref C) "__eq__"=some (some (.builtin "object.__eq__"))) (h3:subIn K (.ref C) (.type "object")=some true) (h:Q (some (.bool true)) s):wpAny (model prog w) A (callSpecialIfBound? (.ref l) "__eq__" [.ref l]) Q E s:=by
 simp only[callSpecialIfBound?,bindSpecialIfBound?];refine bd (ad (ad (ad (I.type.here ((looks_findIn X h1).here ?_)))));simp only[PySem.F.cmp_object.eq.bind];have fin:wpAny (model prog w) A (call (.builtin "object.__eq__") ([.ref l]++[.ref l]) >>= λv=>pure (some v)) Q E s:=by
  refine ad (wpAny_call (codeAny_call_builtin PySem.F.cmp_object.eq.plain PySem.F.cmpEntry_eq ?_));simp only[checkBuiltinCall,PySem.F.cmpKind_eq,PySem.F.cmpSplit_eq];refine ad (ad (I.type.here ((looks_subIn X h3).here ?_)));rw[if_neg (by simp)];have ha:=PySem.F.cmpArgs_eq (.ref l) (.ref l);have h0:(match Manifest.signature? "object.__eq__" with|some sig=>Bind.checkArgs "object.__eq__" sig { pos:=[Value.ref l]++[Value.ref l] }|x=>pure ())=pure ():=ha;refine wpAny_of_eq h0 ?_;exact objEq_entry_same (am h)
 refine ad (wpAny_askSetting (wpAny_ite ?_))
 split
 ·exact ad (am (am fin))
 ·exact wpAny_tryCatch (ad (am (am fin)))
def Ki (X:K.In s.heap)(I:InstAt s.heap l (instObj C dx) C od)(h1:findIn K (.ref C) "__eq__"=some (some (.builtin "object.__eq__"))) (h2:findIn K (.ref C) "__ne__"=some (some (.builtin "object.__ne__"))) (h3:subIn K (.ref C) (.type "object")=some true) (hu:A.units+2<cLine) (h:Q (some (.bool false)) s):wpAny (model prog w) A (callSpecialIfBound? (.ref l) "__ne__" [.ref l]) Q E s:=by
 simp only[callSpecialIfBound?,bindSpecialIfBound?];refine bd (ad (ad (ad (I.type.here ((looks_findIn X h2).here ?_)))));simp only[PySem.F.cmp_object.ne.bind];have fin:wpAny (model prog w) A (call (.builtin "object.__ne__") ([.ref l]++[.ref l]) >>= λv=>pure (some v)) Q E s:=by
  refine ad (wpAny_call (codeAny_call_builtin PySem.F.cmp_object.ne.plain PySem.F.cmpEntry_ne ?_));simp only[checkBuiltinCall,PySem.F.cmpKind_ne,PySem.F.cmpSplit_ne];refine ad (ad (I.type.here ((looks_subIn X h3).here ?_)));rw[if_neg (by simp)];have ha:=PySem.F.cmpArgs_ne (.ref l) (.ref l);have h0:(match Manifest.signature? "object.__ne__" with|some sig=>Bind.checkArgs "object.__ne__" sig { pos:=[Value.ref l]++[Value.ref l] }|x=>pure ())=pure ():=ha;refine wpAny_of_eq h0 ?_;unfold Builtin.«object.__ne__»;show wpAny _ _ (pure (Value.ref l,[Value.ref l]) >>= _) _ _ _;refine ad (am ?_);refine ad (wpAny_cRoomFor (show A.units+1<cLine by omega) ?_);refine ad (Iv X I h1 h3 ?_);refine ad (bi ?_);exact am (am h)
 refine ad (wpAny_askSetting (wpAny_ite ?_))
 split
 ·exact ad (am (am fin))
 ·exact wpAny_tryCatch (ad (am (am fin)))
def vY (X:K.In s.heap)(I:InstAt s.heap l (instObj C dx) C od)(hC:sA K C=true)(hu:A.units+3<cLine):SeqAt.RcNeAt A s (.ref l) (.ref l) false:=λprog w E Q h=>by
 unfold sA xI at hC;simp only[mo,beq_iff_eq] at hC;obtain ⟨h0,⟨h1,h2⟩,h3⟩:=hC;simp only[richCompare,PySem.cmpInfo_NotEq]
 try with_reducible refine bd ?_
 refine ad (wpAny_cRoomFor nofun ?_);show wpAny _ _ (typeOf (Value.ref l) >>= _) _ _ _;refine ad (I.type.here (ad (I.type.here ?_)));rw[if_neg (by simp)];refine ad (am ?_);rw[if_neg (by simp)];refine ad ?_;simp only[tryCompare];refine ad (Ki X I h1 h0 h3 nofun ?_);exact am (am h)
def Jn (d:Addr)(hd:(d ==sysModules)=false)(dd:Option Addr)(ep:Nat)(sl:Array (Option Value)):Meets (Builtin.«dict.__ne__» ⟨[.ref d,.ref d],[]⟩) (λ_ R s=>s.heap.get? d=some ⟨.type "dict",dd,.dict #[] ep,sl⟩/\R (.ok (.ret (.bool false))) s):=by
 intro prog w A R s hs;obtain ⟨h,g,dp,tt,os⟩:=s;obtain ⟨ho,q⟩:=hs;have hT:(⟨h,g,dp,tt,os⟩:Shared).TypeIs (.ref d) "dict":=⟨_,ho,rfl⟩;unfold Builtin.«dict.__ne__»
 k_delta "equality"
 unfold Builtin.Dict.dictSlotArgs;refine ad (ad (wpAny_notOrdered_dict hT ?_));show wpAny _ _ (pure (Value.ref d,[Value.ref d]) >>= _) _ _ _;refine ad (am (am ?_));have hi:=PySem.F.kt_sub_dict;show wpAny _ _ (isInstance (.ref d) (.type "dict") >>= _) _ _ _;unfold Builtin.Dict.samePairs;simp only[Std.Legacy.Range.forIn_eq_forIn_range']
 repeat (any_goals first|assumption|wp_step)
def DC (hd:(d ==sysModules)=false){ep:Nat}(ho:s.heap.get? d=some ⟨.type "dict",dd,.dict #[] ep,sl⟩) (hu:A.units<cLine):SeqAt.RcNeAt A s (.ref d) (.ref d) false:=λprog w E Q h=>
 richCompare_meets_room (op:=.NotEq) ⟨_,ho,rfl⟩ ⟨_,ho,rfl⟩ PySem.F.slot_dict_ne PySem.F.entry_dict_ne (PySem.F.args_dict_ne_2 _ _) (Jn d hd dd ep sl) ⟨ho,show Value.bool false≠Value.notImplemented/\Q (.bool false) s from ⟨(λx=>nomatch x),h⟩⟩ hu
abbrev tG (K:W.Frag)(H:Hp)(a:Addr):Prop:=(∃ xs,aS K H a xs)\/H a=some (.dK [])\/∃ C dx fs,H a=some (.ins C dx fs)/\sA K C=true
def CQ {a:Addr}(I:Inv X Y U H s)(h:tG X.K H a)(hu:A.units+3<cLine):SeqAt.RcNeAt A s (.ref a) (.ref a) false:=by
 rcases h with ⟨xs,h⟩|h|⟨C,dx,fs,h,hn⟩
 ·obtain ⟨ia,ra,pa,_⟩:=I.tuple h;have rc:=SeqAt.RcNeAt.tuples (A:=A) (e:=λ_=>true) (show s.heap.IsTuple a ia.toArray from pa) (show s.heap.IsTuple a ia.toArray from pa) nofun λj h1 h2=>SeqAt.EqAt.same _
  have e:((List.range (min ia.toArray.size ia.toArray.size)).all (λ_=>true)&&ia.toArray.size ==ia.toArray.size)=true:=by simp
  rw[e] at rc;exact rc
 ·obtain ⟨z,hd,vs,rel,dd⟩:=kf I.hok (.inl h);cases rel;obtain ⟨⟨c,d,da,sl⟩,es,ep,ho,hx,he,_,hp,_⟩:=dd;have e0:es=#[]:=by
   cases hp':es.toList with
   |nil=>exact Array.toList_eq_nil_iff.mp hp'
   |cons a b=>rw[hp'] at hp;cases hp
  subst e0;obtain rfl:da=.dict #[] ep:=he;obtain ⟨rfl,_⟩:=hx;exact DC hd ho nofun
 ·obtain ⟨mA,o,_⟩:=ft I.hok h;obtain ⟨od,i,_⟩:=o.look;exact vY I.bO i hn hu
end
end L2
namespace L2
open PySem PySem.Spec PyProof.Rows
abbrev Jp (hi:Int)(n:Nat):It:=⟨λi _=>i<n,λi H x H'=>H'=H/\x=.int (hi-i),λi _=>n<=i⟩
def qQ {P:Program}{w:World}{K:W.Frag}{tg:Expr}(it:Addr)(hi:Int)(n:Nat):Turn P w K tg (Jp hi n) [it] it (λi h=>IsRangeIter h it (hi+(i:Nat)* -1) ((n:Int)-(i:Nat)) (-1)) where
 mem:=by simp
 obj:=λi h st b hb=>by
  have e:b=it:=by simpa using hb
  subst e;exact ⟨_,st,λv z=>by
   have z':Data.fields _=Data.cell v:=z;cases z'⟩
 keep:=λi h h' st k=>k it (by simp) _ st
 item:=by
  intro X hP hw hK hc i Y s U H E I hf st hg;subst hP hw hK;obtain ⟨f0,f1,f2,f3,f4,f5⟩:=hf it (by simp);have W:=Walks.range (prog:=X.prog) (w:=X.w) (I.ok.hd hc) it hi (-1) n;refine W.item i s _ _ hg st λv h' tk hv st' kk=>?_
  obtain ⟨t,rfl⟩:=hv;have I1:Inv X Y U H { s with heap:=h',toks:=tk }:=I.turned (λb o hb e=>kk b o (by simpa using hb) e) f0 f1 f3 f4 f5;refine ⟨_,rfl,uX (s:={ s with heap:=h',toks:=tk }) (n:="range_iterator") st' rfl rfl (by decide) ⟨.int (hi-i),H,I1,⟨t,?_⟩,⟨rfl,rfl⟩,st',λb hb=>(hf b hb).1⟩⟩;rw[show hi-(i:Int)=hi+(i:Int)* -1 by omega]
 done:=by
  intro X hP hw hK hc i Y s U H E I hf st hg;subst hP hw hK;obtain ⟨f0,f1,f2,f3,f4,f5⟩:=hf it (by simp);exact wpAny_pyNext_range_end (I.ok.hd hc) st (by have:n<=i:=hg;omega) λh' eb=>⟨rfl,I.turned (t':=s.toks) (λb o hb e=>eb b o hb e) f0 f1 f3 f4 f5⟩
 self:=λ_ _ _ _ _ st h=>wpAny_pyIter_rangeiter st h
def fS {a b:Int}:Builtin.Range.rangeSize a b (-1)=if a>b then a-b else 0:=by
 unfold Builtin.Range.rangeSize;rw[if_neg (by decide)];simp only[Int.neg_neg,Int.ediv_one]
 split<;>omega
def wZ {a b:Int}(ha: -(2 ^ 62)<=a)(ha':a<2 ^ 62)(hb: -(2 ^ 62)<=b)(hb':b<2 ^ 62):Builtin.Range.small a b (-1)=true:=by
 unfold Builtin.Range.small;rw[fS];simp only[Builtin.Range.rangeFitsLong,mo,Bool.or_eq_true,decide_eq_true_eq,beq_iff_eq,show ¬ (-1:Int)>0 by decide,if_false]
 split<;>omega
section
variable {X:Cx}{tg:Expr}
def vE {Y:M7}{U:St}{H:Hp}{s:Shared}{R:It->Hp->Prop}{E:M6}{lo hi:Int}{t u v:Tok}{tk:Nat}(I:Inv X Y U H s)(h1: -(2 ^ 62)<=hi)(h2:hi<2 ^ 62)(h3: -(2 ^ 62)<=lo)(h4:lo<2 ^ 62)
  (q:R (Jp hi (hi-lo).toNat) H):wpAny (model X.prog X.w) X.A (pyIter (.ref s.heap.objs.size)) (ID X Y U tg R) E { s with heap:=s.heap.push { cls:=.type "range",data:=.fields #[.int hi t,.int lo u,.int (-1) v] },toks:=tk }:=by
 refine wpAny_pyIter_range (IsRange.new ..) (wZ h1 h2 h3 h4) ?_;have I1:Inv X Y U H { s with heap:=s.heap.push { cls:=.type "range",data:=.fields #[.int hi t,.int lo u,.int (-1) v] },toks:=tk }:=I.kept λb o e=>tz _ e
 refine ⟨(s.heap.push { cls:=.type "range",data:=.fields #[.int hi t,.int lo u,.int (-1) v] }).objs.size,[(s.heap.push { cls:=.type "range",data:=.fields #[.int hi t,.int lo u,.int (-1) v] }).objs.size],_,_,H,rfl,
  I1.kept (t':=tk) λb o e=>tz _ e,qQ _ hi (hi-lo).toNat,?_,λb hb=>?_,q⟩
 ·have e1:hi+((0:Nat):Int)* -1=hi:=by simp
  have e2:(((hi-lo).toNat:Nat):Int)-((0:Nat):Int)=Builtin.Range.rangeSize hi lo (-1):=by rw[fS];split<;>omega
  show IsRangeIter _ _ (hi+((0:Nat):Int)* -1) ((((hi-lo).toNat:Nat):Int)-((0:Nat):Int)) (-1);rw[e1,e2];exact ul _ rfl
 ·have e:b=(s.heap.push { cls:=.type "range",data:=.fields #[.int hi t,.int lo u,.int (-1) v] }).objs.size:=by simpa using hb
  subst e;exact I1.qO (pi _) (I1.hok.fresh (pi _))
abbrev JJ (ta:TA):TI:=λU H R=>ta U H λvs H1=>∃ i j:Int,vs=[.int i,.int j,.int (-1)]/\(-(2 ^ 62)<=i/\i<2 ^ 62/\ -(2 ^ 62)<=j/\j<2 ^ 62)/\R (Jp i (i-j).toNat) H1
def vK {a b c:Expr}{ta:TA}{p pos:Pos}(hg:Gl X "range") (hm:X.mg "range"=none) (ha:PA X [a,b,c] ta) (hs:bm [a,b,c] X.env=[(false,eval a X.env),(false,eval b X.env),(false,eval c X.env)]) (hs2:bm [b,c] X.env=[(false,eval b X.env),(false,eval c X.env)]):
  PI X tg (.Call (.Name "range" p) [a,b,c] [] pos) (JJ ta):=by
 intro Y s U H R I h;refine Call_ (bN I hg hm boot_range (PyProof.Rows.callWith_type1 (ax (ha pos Y s U H _ I h) λus s1 ⟨vs,H1,I1,r1,q1⟩=>?_) (by rw[hs,hs2]) (by rw[hs2];rfl)));obtain ⟨i,j,e,⟨q1,q2,q3,q4⟩,q⟩:=q1;subst e;cases r1 with
 |cons r rr=>
  cases rr with
  |cons r' rr=>
   cases rr with
   |cons r'' rr=>
    cases rr;obtain ⟨t,rfl⟩:=r;obtain ⟨t',rfl⟩:=r';obtain ⟨t'',rfl⟩:=r'';refine call_range_3 (by decide) (vE I1 q1 q2 q3 q4 q) (.inl ?_);exact PyProof.noPylong_small nofun
end
end L2
namespace L2
open PySem PySem.Spec PySem.W PyProof.Rows
open PySem.AutoSeq1 (wpAny_loadPart')
noncomputable abbrev Ke (l:Addr):Obj:={ cls:=.type "tuple_iterator",data:=.fields #[.ref l,.int 0 0] }
noncomputable abbrev Li (j:Addr):Obj:={ cls:=.type "enumerate",data:=.fields #[.none,.bool false,.ref j,rawInt 0,.none,.none] }
def G2 (l:Addr)(o:Obj)(xs:Array Value)(hc:o.cls=.type "tuple") (hd:∃ n,o.data=.seq xs n):
  Meets (Builtin.«enumerate.__new__» ⟨[.type "enumerate",.ref l],[]⟩) (λ_ R s=>s.heap.get? l=some o/\R (.ok (.ret (.ref (s.heap.push (Ke l)).objs.size))) { s with heap:=(s.heap.push (Ke l)).push (Li s.heap.objs.size) }):=
 .of_wp λprog w A R s h=>by
  obtain ⟨⟩:=s;obtain ⟨hl,h⟩:=h;have hs:=sub_enumerate;have hL:Heap.IsTuple (Shared.heap ⟨_,_,_,_,_⟩) l xs:=⟨o,hl,hc,hd⟩
  wp_walk using wpAny_loadPart' hl
  refine wpAny_stack_any λst=>am ?_
  split
  ·rename_i c _ _ _ _ _;cases (c ==Value.type "enumerate")
   ·wp_walk using wpAny_loadPart' hl,wpAny_pyIter_tuple hL
    exact ⟨_,rfl,h⟩
   ·wp_walk using wpAny_loadPart' hl,wpAny_pyIter_tuple hL
    exact ⟨_,rfl,h⟩
  ·wp_walk using wpAny_loadPart' hl,wpAny_pyIter_tuple hL
   exact ⟨_,rfl,h⟩
variable {xs:Array Value}{Q:M4}{i:Nat}
section
variable {prog:Program}{w:World}{A:Around}{E:M6}{s:Shared}
def Bz {l:Addr}{Q:M6}(hL:s.heap.IsTuple l xs)
  (q:∀ h',IsEnum h' (s.heap.objs.size+1) s.heap.objs.size 0 .none->h'.IsTupleIter s.heap.objs.size l 0->(∀ b o,s.heap.get? b=some o->h'.get? b=some o)->Q (.ref (s.heap.objs.size+1)) { s with heap:=h' }):
  wpAny (model prog w) A (call (.type "enumerate") [.ref l]) Q E s:=by
 obtain ⟨o,hl,hc,hd⟩:=hL;refine callType_new F.called_enumerate (by decide) (F.typeCall_enumerate_1 _) (F.newCall_enumerate_1 _) (λobj=>F.args_object_init_2 obj _) F.entry_enumerate_new (G2 l o xs hc hd) ⟨hl,?_⟩;have hz:(s.heap.push (Ke l)).objs.size=s.heap.objs.size+1:=Heap.size_push ..;show _/\_;rw[hz];have he:IsEnum ((s.heap.push (Ke l)).push (Li s.heap.objs.size)) (s.heap.objs.size+1) s.heap.objs.size 0 .none:=by
  have:=ul (s.heap.push (Ke l)) (o:=Li s.heap.objs.size) rfl;rw[hz] at this;exact this
 exact ⟨⟨_,he,rfl⟩,q _ he ⟨_,tz _ (ul _ rfl),rfl,rfl⟩ λb o x=>tz _ (tz _ x)⟩
def Jj {e j l:Addr}{x y:Value}{Q:M6}(he:IsEnum s.heap e j i y)(g:s.heap.IsTupleIter j l i)(hl:s.heap.IsTuple l xs)(hx:xs[i]? =some x)(ne:e≠j)
  (q:∀ h',IsEnumOut h' e j ((i:Int)+1) x s.heap.objs.size->h'.IsTupleIter j l (i+1)->h'.get? s.heap.objs.size=some { cls:=.type "tuple",data:=.seq #[.int i s.toks,x] }->
   (∀ b o,b≠e->b≠j->s.heap.get? b=some o->h'.get? b=some o)->Q (.ref s.heap.objs.size) { s with heap:=h',toks:=s.toks+1 }):
  wpAny (model prog w) A (Builtin.«enumerate.__next__» ⟨[.ref e],[]⟩) (λfin s'=>∃ v,fin=.done (.ret v)/\Q v s') E s:=by
 obtain ⟨hp,gs,d,tk,os⟩:=s;show wpAny _ _ (field (.ref e) 2 >>= _) _ _ _;refine ad (ap he rfl (x:=.ref j) rfl (ad (zl g hl hx λk1 g1 s1=>?_)))
 replace s1:Heap.SameBut j hp k1:=s1
 have e1:IsEnum k1 e j i y:=(s1.2 e ne).trans he;show wpAny _ _ (field (.ref e) 3 >>= _) _ _ ⟨k1,gs,d,tk,os⟩;refine ad (ap e1 rfl (x:=rawInt i) rfl ?_);show wpAny _ _ (field (.ref e) 4 >>= _) _ _ ⟨k1,gs,d,tk,os⟩;refine ad (ap e1 rfl (x:=.none) rfl ?_);show wpAny _ _ (mkInt i >>= _) _ _ ⟨k1,gs,d,tk,os⟩;refine ad (wpAny_mkInt ?_);show wpAny _ _ (setField (.ref e) 3 (rawInt ((i:Int)+1)) >>= _) _ _ ⟨k1,gs,d,tk+1,os⟩;refine ad (wpAny_setField_rec e1 (by simp) λk2 e2 s2=>?_)
 replace s2:Heap.SameBut e k1 k2:=s2
 replace e2:IsEnum k2 e j ((i:Int)+1) y:=e2
 show wpAny _ _ (setField (.ref e) 4 .none >>= _) _ _ ⟨k2,gs,d,tk+1,os⟩;refine ad (wpAny_setField_rec e2 (by simp) λk3 e3 s3=>?_)
 replace s3:Heap.SameBut e k2 k3:=s3
 replace e3:IsEnum k3 e j ((i:Int)+1) y:=e3
 show wpAny _ _ (newTuple [.int i tk,x] >>= _) _ _ ⟨k3,gs,d,tk+1,os⟩;refine ad (wpAny_newTuple ?_);have e4:IsEnum (k3.push { cls:=.type "tuple",data:=.seq #[.int i tk,x] }) e j ((i:Int)+1) y:=tz _ e3;generalize hk:k3.push { cls:=.type "tuple",data:=.seq #[.int i tk,x] }=k4 at e4;have z3:k3.objs.size=hp.objs.size:=by rw[s3.1,s2.1,s1.1]
 have lt:e<hp.objs.size:=u8 he;have t4:k4.get? hp.objs.size=some { cls:=.type "tuple",data:=.seq #[.int i tk,x] }:=by rw[<-hk,<-z3];exact ul _ rfl
 have b4:∀ b o,b≠e->b≠j->hp.get? b=some o->k4.get? b=some o:=λb o hb hj h=>by
  rw[<-hk];exact tz _ (s3.extBut b o hb (s2.extBut b o hb (s1.extBut b o hj h)))
 have g4:k4.IsTupleIter j l (i+1):=by
  obtain ⟨o,ho,r⟩:=g1;exact ⟨o,by rw[<-hk];exact tz _ (s3.extBut _ _ ne.symm (s2.extBut _ _ ne.symm ho)),r⟩
 show wpAny _ _ (Builtin.SmallTypes.ownedTupleIsFree (.ref e) >>= _) _ _ ⟨k4,gs,d,tk+1,os⟩;rw[z3];clear hk e3 s3 e2 s2 e1 s1 g1 z3 k3 k2 k1;refine ad ?_;unfold Builtin.SmallTypes.ownedTupleIsFree;refine ad (ap e4 rfl (x:=.none) rfl (am ?_));simp only[if_true];refine ad (wpAny_rule (ad (ap e4 rfl (x:=y) rfl (ad (wpAny_setField_rec e4 (by simp) λk5 e5 s5=>?_)))))
 replace s5:Heap.SameBut e k4 k5:=s5
 replace e5:IsEnum k5 e j ((i:Int)+1) x:=e5
 show wpAny _ _ (Builtin.SmallTypes.ownedTupleHandOut (.ref e) (.ref hp.objs.size) >>= _) _ _ ⟨k5,gs,d,tk+1,os⟩;refine ad ?_;unfold Builtin.SmallTypes.ownedTupleHandOut;refine ad (wpAny_setField_rec e5 (by simp) λk6 e6 s6=>?_)
 replace s6:Heap.SameBut e k5 k6:=s6
 replace e6:IsEnumOut k6 e j ((i:Int)+1) x hp.objs.size:=e6
 refine wpAny_setField_rec e6 (by simp) λk7 e7 s7=>?_
 replace s7:Heap.SameBut e k6 k7:=s7
 replace e7:IsEnumOut k7 e j ((i:Int)+1) x hp.objs.size:=e7
 have ex:∀ b o,b≠e->k4.get? b=some o->k7.get? b=some o:=λb o hb h=>s7.extBut b o hb (s6.extBut b o hb (s5.extBut b o hb h))
 refine ad (wpAny_letGo (am ⟨_,rfl,q k7 e7 ?_ (ex _ _ (Nat.ne_of_gt lt) t4) λb o hb hj h=>ex b o hb (b4 b o hb hj h)⟩));obtain ⟨o,ho,r⟩:=g4;exact ⟨o,ex _ _ ne.symm ho,r⟩
def Bk {e j l:Addr}{x y:Value}(he:IsEnum s.heap e j i y)(g:s.heap.IsTupleIter j l i)(hl:s.heap.IsTuple l xs)(hx:xs[i]? =some x)(ne:e≠j)
  (q:∀ h',IsEnumOut h' e j ((i:Int)+1) x s.heap.objs.size->h'.IsTupleIter j l (i+1)->h'.get? s.heap.objs.size=some { cls:=.type "tuple",data:=.seq #[.int i s.toks,x] }->
   (∀ b o,b≠e->b≠j->s.heap.get? b=some o->h'.get? b=some o)->Q (some (.ref s.heap.objs.size)) { s with heap:=h',toks:=s.toks+1 }):wpAny (model prog w) A (pyNext (.ref e)) Q E s:=by
 have hT:s.TypeIs (.ref e) "enumerate":=⟨_,he,rfl⟩;unfold pyNext;exact ad (wpAny_attempt (wpAny_callSpecial?_slot (name:=Str.ofString "__next__") hT F.slot_enumerate_next (wpAny_call_entry F.slot_enumerate_next hT F.entry_enumerate_next (Jj he g hl hx ne λh' a b c k=>am (q h' a b c k)) (F.args_enumerate_next_1 _))))
def FV {e j l:Addr}{y:Value}(hh:A.handled=none)(he:IsEnum s.heap e j i y)(g:s.heap.IsTupleIter j l i)(hl:s.heap.IsTuple l xs)(hx:xs[i]? =none)
  (q:∀ h',Heap.ExtBut j s.heap h'->Q none { s with heap:=h' }):wpAny (model prog w) A (pyNext (.ref e)) Q E s:=by
 have hT:s.TypeIs (.ref e) "enumerate":=⟨_,he,rfl⟩;unfold pyNext;refine ad (wpAny_attempt (wpAny_callSpecial?_slot (name:=Str.ofString "__next__") hT F.slot_enumerate_next (wpAny_call_entry F.slot_enumerate_next hT F.entry_enumerate_next ?_ (F.args_enumerate_next_1 _))));show wpAny _ _ (field (.ref e) 2 >>= _) _ _ _;refine ad (ap he rfl (x:=.ref j) rfl (ad (ub hh g hl hx λh' x he' hx'=>?_)));obtain ⟨o,ho,hc⟩:=hx';exact ad (wpAny_isInstance (T:="StopIteration") (b:=true) ⟨o,ho,hc⟩ isSubtype_stop (am (q _ he')))
end
abbrev IX (K:W.Frag)(l:Addr):It:=
 ⟨λi H=>∃ xs x,aS K H l xs/\xs[i]? =some x,λi H x H'=>∃ T y,H T=none/\x=.ref T/\H'=upd H T (.tup [.int i,y])/\∀ xs,aS K H l xs->xs[i]? =some y,λi H=>∃ xs,aS K H l xs/\xs.length<=i⟩
variable {P:Program}{K:W.Frag}{elts:List Expr}{k:Nat}{pos:Pos}
def sv {w:World}(l e it:Addr)(hei:e≠it):
  Turn P w K (.Tuple elts k pos) (IX K l) [e,it] e (λi h=>(∃ old,IsEnum h e it ((i:Nat):Int) old)/\h.IsTupleIter it l i) where
 mem:=by simp
 obj:=λi h st b hb=>by
  obtain ⟨⟨old,he⟩,hit⟩:=st;rcases lw.mp hb with rfl|hb
  ·exact ⟨_,he,λv z=>by
    have z':Data.fields _=Data.cell v:=z;cases z'⟩
  ·have e':b=it:=by simpa using hb
   subst e';obtain ⟨o,e,c,d⟩:=hit;exact ⟨o,e,λv z=>by rw[d] at z;cases z⟩
 keep:=λi h h' st k=>by
  obtain ⟨⟨old,he⟩,hit⟩:=st;exact ⟨⟨old,k e (by simp) _ he⟩,hit.at λo q=>k it (by simp) o q⟩
 item:=by
  intro X hP hw hK hc i Y s U H E I hf st hg;subst hP hw hK;obtain ⟨xs,x,hq,hx⟩:=hg;obtain ⟨⟨old,he⟩,hit⟩:=st;obtain ⟨its,rv,p,hz⟩:=I.tuple hq;obtain ⟨u,hu,ru⟩:=rv.get hx;have heN:H e=none:=(hf e (by simp)).1;have hes:e≠s.heap.objs.size:=pc (u8 he);obtain ⟨oi,hoi,_⟩:=id hit;have his:it≠s.heap.objs.size:=pc (u8 hoi);refine Bk he hit (show s.heap.IsTuple l its.toArray from p) (x:=u) (by simpa using hu) hei λh1 heo hit1 ht1 hk1=>?_
  have I1:Inv X Y U (upd H s.heap.objs.size (.tup [.int i,x])) { s with heap:=h1,toks:=s.toks+1 }:=
   I.g7 (ch:=[e,it]) (λb o hb q=>hk1 b o (λz=>hb (by simp[z])) (λz=>hb (by simp[z])) q) hf (pi _)
    ⟨fits (ol rfl),[.int i s.toks,u],.cons ⟨_,rfl⟩ (.cons ru .nil),⟨_,ht1,rfl,_,rfl⟩⟩
  refine ⟨_,rfl,wpAny_letOwnedTupleGo_enum heo λh2 he2 hs2=>?_⟩;obtain ⟨f0,f1,f2,f3,f4,f5⟩:=hf e (by simp);have I2:=I1.turned (h':=h2) (t':=s.toks+1) (it:=e) (λb o hb q=>(hs2.2 b hb).trans q) (by rw[ag hes];exact heN) f1 f3 f4 f5;refine ⟨.ref s.heap.objs.size,_,I2,rfl,⟨_,x,I.hok.fresh (pi _),rfl,rfl,λys hy=>by rw[I.fq hy hq];exact hx⟩,⟨⟨_,by simpa using he2⟩,hit1.at λo q=>(hs2.2 it hei.symm).trans q⟩,λb hb=>?_⟩;have hb':b≠s.heap.objs.size:=by
   rcases lw.mp hb with rfl|hb
   ·exact hes
   ·have e':b=it:=by simpa using hb
    subst e';exact his
  rw[ag hb'];exact (hf b hb).1
 done:=by
  intro X hP hw hK hc i Y s U H E I hf st hg;subst hP hw hK;obtain ⟨xs,hq,hx⟩:=hg;obtain ⟨⟨old,he⟩,hit⟩:=st;obtain ⟨its,rv,p,hz⟩:=I.tuple hq;obtain ⟨f0,f1,f2,f3,f4,f5⟩:=hf it (by simp);have hl:=rv.length;exact FV (I.ok.hd hc) he hit (show s.heap.IsTuple l its.toArray from p) (by simp;omega) λh' eb=>⟨rfl,I.turned (t':=s.toks) (λb o hb q=>eb b o hb q) f0 f1 f3 f4 f5⟩
 self:=λ_ _ _ _ _ st h=>by
  obtain ⟨⟨old,he⟩,hit⟩:=st;exact wpAny_pyIter_enum he h
abbrev Ia (K:W.Frag)(ta:TA):TI:=λU H R=>ta U H λvs H1=>∃ l,vs=[.ref l]/\(∃ xs,aS K H1 l xs)/\R (IX K l) H1
def DN {X:Cx}{a:Expr}{ta:TA}{p pos':Pos}(hg:Gl X "enumerate") (hm:X.mg "enumerate"=none) (ha:PA X [a] ta) (hs:bm [a] X.env=[(false,eval a X.env)]):
  PI X (.Tuple elts k pos') (.Call (.Name "enumerate" p) [a] [] pos) (Ia X.K ta):=by
 intro Y s U H R I h;refine Call_ (bN I hg hm gy (PyProof.Rows.callWith_type1 (ax (ha pos Y s U H _ I h) λus s1 ⟨vs,H1,I1,r1,q1⟩=>?_) hs rfl));obtain ⟨l,e,⟨xs,hl⟩,q⟩:=q1;subst e;cases r1 with
 |cons r rr=>
  cases rr;cases r;obtain ⟨its,rv,p,hz⟩:=I1.tuple hl;refine Bz (show s1.heap.IsTuple l its.toArray from p) λh' he hit hk=>wpAny_pyIter_enum he ?_
  refine ⟨s1.heap.objs.size+1,[s1.heap.objs.size+1,s1.heap.objs.size],_,_,H1,rfl,I1.kept (t':=s1.toks) hk,sv l _ _ (Nat.succ_ne_self _),⟨⟨_,he⟩,hit⟩,λb hb=>?_,q⟩;have hb':s1.heap.objs.size<=b:=by
   rcases lw.mp hb with rfl|hb
   ·exact Nat.le_succ _
   ·have e':b=s1.heap.objs.size:=by simpa using hb
    exact Nat.le_of_eq e'.symm
  exact I1.qO hb' (I1.hok.fresh hb')
section
variable {X:Cx}{Y:M7}{U:St}{H:Hp}{s:Shared}
def Ae {o:Option V}{w:Option Value}{d:V}{r:Value}(h:cT o w)(rd:RelV d r):RelV (o.getD d) (w.getD r):=by
 cases o<;>cases w
 ·exact rd
 ·exact False.elim h
 ·exact False.elim h
 ·exact h
def FG {a:Addr}{kvs:List (Key×V)}{k:Key}{d:V}{u r:Value}{A:Around}{E:M6}{Q:M6}(I:Inv X Y U H s)(e:H a=some (.dK kvs))(ry:RelV (kV k) u)(rd:RelV d r)(q:∀ w' s',Inv X Y U H s'->RelV ((di kvs k).getD d) w'->Q w' s'):
  wpAny (model X.prog X.w) A (call (.builtin "dict.get") [.ref a,u,r]) Q E s:=by
 obtain ⟨_,hd,vs,rel,dd⟩:=uM I.hok e;exact call_meetsIn PySem.F.slot_dict_get dd.typeIs PySem.F.entry_dict_get (PySem.F.args_dict_get_3 _ _ _) (meets_dict_get_default (ar X.prog X.w) a (ma ry) hd r) ⟨_,dd.mapOf,q _ _ (I.tok _) (Ae (rel.val k) rd)⟩
abbrev KZ (td:TE)(t:TA):TE:=λU H Q=>td U H λx H1=>∃ a kvs0,x=.ref a/\H1 a=some (.dK kvs0)/\t U H1 λvs H2=>∃ kvs k d,vs=[kV k,d]/\H2 a=some (.dK kvs)/\Q ((di kvs k).getD d) H2
def Hj {o e:Expr}{es:List Expr}{td:TE}{t:TA}{apos cpos:Pos}(ho:PE X o td)(ha:PA X (e::es) t)(hbase:attributeBase o "get" X.env (eval o X.env)=eval o X.env)
  (hfew:((backTo cpos (bm (e::es) X.env)).all (λx=>!x.1)&&(backToKw cpos (keywordEach [] X.env)).all (λx=>x.1.isSome)&&decide ((e::es).length+([]:List Keyword).length+(if ([]:List Keyword).isEmpty then 0 else 1)<30))=true)
  (hline:(apos.endLine ==cpos.line)=true) (hs:bm (e::es) X.env=(false,eval e X.env)::bm es X.env) (hplain:(backTo cpos (bm es X.env)).any (·.1)=false):
  PE X (.Call (.Attribute o "get" apos) (e::es) [] cpos) (KZ td t):=by
 intro Y s U H Q I h;refine wpAny_Call_method_late hbase hfew hline rfl (ax (ho Y s U H _ I h) λv s1 ⟨x,H1,I1,r1,a,kvs0,ex,e0,q1⟩=>?_);subst ex;obtain rfl:v=Value.ref a:=r1;obtain ⟨_,hd,vs,_,dd⟩:=uM I1.hok e0;refine ⟨"dict","dict.get",PySem.F.plainAttrs_dict,PySem.F.slot_dict_get,PySem.F.type_dict_get,dd.typeIs,λb q=>?_,?_⟩
 ·cases q;obtain ⟨ob,_,_,h1,h2,_⟩:=dd;exact ⟨ob,h1,h2.2.1⟩
 have hA:=ha cpos Y s1 U H1 _ I1 q1;rw[hs] at hA⊢;refine Calls.callWith_builtin (by show (false||(backTo cpos (bm es X.env)).any (·.1))=false;rw[hplain]<;>rfl) (Calls.evalArgs_plain ?_);refine ax hA λus s2 ⟨vs,H2,I2,r2,kvs,k,d,ev,e2,q2⟩=>?_
 subst ev;cases r2 with
 |cons ry rr=>
  cases rr with
  |cons rd rr=>
   cases rr;exact FG I2 e2 ry rd λw' s3 I3 rw'=>⟨_,H2,I3,rw',q2⟩
end
def kF (a b c:Value):checkTypeCall "zip" ⟨[a,b,c],[]⟩=pure ():=by kernel_rfl
def lH (a b c:Value):checkBuiltinCall "zip.__new__" ⟨[.type "zip",a,b,c],[]⟩=pure ():=by kernel_rfl
def gp (a b c d:Value):argsOk "object.__init__" ⟨[a,b,c,d],[]⟩:=by
 unfold argsOk;rw[signature?_of (id:="object.__init__") (n:=['_','_','t','i','n','i','_','_']) (o:=['t','c','e','j','b','o']) (by kernel_rfl) PySem.F.owner_object];kernel_rfl
@[reducible]def bX (h:Heap) (T:Addr) (a b c:Value):Prop:=h.get? T=some { cls:=.type "tuple",data:=.seq #[a,b,c] }
structure Kv (z TI TO i1 i2 i3 l1 l2 l3:Addr):Prop where
 TIz:TI≠z
 TOz:TO≠z
 i1z:i1≠z
 i2z:i2≠z
 i3z:i3≠z
 TOTI:TO≠TI
 i1TI:i1≠TI
 i2TI:i2≠TI
 i3TI:i3≠TI
 i1TO:i1≠TO
 i2TO:i2≠TO
 i3TO:i3≠TO
 i2i1:i2≠i1
 i3i1:i3≠i1
 i3i2:i3≠i2
 l1z:l1≠z
 l1TO:l1≠TO
 l1i1:l1≠i1
 l1i2:l1≠i2
 l1i3:l1≠i3
 l2z:l2≠z
 l2TO:l2≠TO
 l2i1:l2≠i1
 l2i2:l2≠i2
 l2i3:l2≠i3
 l3z:l3≠z
 l3TO:l3≠TO
 l3i1:l3≠i1
 l3i2:l3≠i2
 l3i3:l3≠i3
section
variable {prog:Program}{w:World}{A:Around}{E:M6}{s:Shared}
variable {z TI TO i1 i2 i3 l1 l2 l3:Addr}{k1 k2 k3:Nat}{tp1 tp2 tp3:Bool}{xs ys zs:Array Value}{x y v a b c f1:Value}
def oZ {T:Addr}{Q:M5}(hT:bX s.heap T a b c)
  (h:∀ h',h'.get? T=some { cls:=.type "tuple",data:=.seq ((#[a,b,c]:Array Value).setIfInBounds k x) }->Heap.SameBut T s.heap h'->Q () { s with heap:=h' }):
  wpAny (model prog w) A (updateSeq T (·.setIfInBounds k x)) Q E s:=by
 refine wpAny_updateSeq hT rfl (h _ ?_ (Heap.SameBut.update ..));rw[Heap.get?_update_self _ hT rfl];simp[Obj.mapSeq]
def AS (D:Kv z TI TO i1 i2 i3 l1 l2 l3)(hz:aV s.heap z TI TO .none f1)(hI:bX s.heap TI (.ref i1) (.ref i2) (.ref i3))(hO:bX s.heap TO a b c)
  (g1:aD tp1 s.heap i1 l1 k1) (g2:aD tp2 s.heap i2 l2 k2) (g3:aD tp3 s.heap i3 l3 k3) (t1:aT tp1 s.heap l1 xs) (t2:aT tp2 s.heap l2 ys) (t3:aT tp3 s.heap l3 zs) (hx:xs[k1]? =some x) (hy:ys[k2]? =some y) (hv:zs[k3]? =some v)
  (q:∀ h',aV h' z TI TO (rawInt s.heap.objs.size) (.bool false)->bX h' TO x y v->aD tp1 h' i1 l1 (k1+1)->aD tp2 h' i2 l2 (k2+1)->aD tp3 h' i3 l3 (k3+1)->bX h' s.heap.objs.size x y v->h'.objs.size=s.heap.objs.size+1->
   (∀ c o,c≠z->c≠TO->c≠i1->c≠i2->c≠i3->s.heap.get? c=some o->h'.get? c=some o)->Q (some (.ref s.heap.objs.size)) { s with heap:=h' }):wpAny (model prog w) A (pyNext (.ref z)) Q E s:=by
 have hT':s.TypeIs (.ref z) "zip":=⟨_,hz,rfl⟩;unfold pyNext;refine ad (wpAny_attempt (wpAny_callSpecial?_slot (name:=Str.ofString "__next__") hT' F.slot_zip_next (wpAny_call_entry F.slot_zip_next hT' F.entry_zip_next ?_ (F.args_zip_next_1 _))));show wpAny _ _ (field (.ref z) 2 >>= _) _ _ _;refine ad (ap (x:=.bool false) hz rfl rfl ?_);show wpAny _ _ (field (.ref z) 3 >>= _) _ _ _;refine ad (ap (x:=.ref TI) hz rfl rfl ?_);refine ad (wpAny_seqItems hI rfl ?_);show wpAny _ _ (Builtin.SmallTypes.ownedTupleIsFree (.ref z) >>= _) _ _ _;refine ad ?_;unfold Builtin.SmallTypes.ownedTupleIsFree;refine ad (ap (x:=.none) hz rfl rfl (am ?_));simp only[if_true];refine ad (wpAny_rule ?_);refine ad (ap (x:=.ref TO) hz rfl rfl ?_);refine ad (wpAny_setField_rec hz (by simp) λp1 z1 b1=>?_)
 replace z1:aV p1 z TI TO .ellipsis f1:=z1
 refine ad ?_;simp only[zipIdx_cons,zipIdx_nil,forIn_cons,forIn_nil];refine ad (ad (wpAny_onRaise ?_));show wpAny _ _ (Builtin.SmallTypes.nextOf (.ref i1) >>= _) _ _ _;refine ad (cy (g1.to λo e=>b1.extBut _ o D.i1z e) (t1.to λo e=>b1.extBut _ o D.l1z e) hx λp2 g1b b2=>am ?_);have hO2:bX p2 TO a b c:=b2.extBut _ _ D.i1TO.symm (b1.extBut _ _ D.TOz hO);refine ad (wpAny_seqItems hO2 rfl ?_);refine ad (oZ hO2 λp3 hO3 b3=>?_)
 replace hO3:bX p3 TO x b c:=hO3
 refine ad (wpAny_letGo (am ?_));refine ad (ad (wpAny_onRaise ?_));show wpAny _ _ (Builtin.SmallTypes.nextOf (.ref i2) >>= _) _ _ _;refine ad (cy (g2.to λo e=>b3.extBut _ o D.i2TO (b2.extBut _ o D.i2i1 (b1.extBut _ o D.i2z e))) (t2.to λo e=>b3.extBut _ o D.l2TO (b2.extBut _ o D.l2i1 (b1.extBut _ o D.l2z e))) hy λp4 g2b b4=>am ?_);have hO4:bX p4 TO x b c:=b4.extBut _ _ D.i2TO.symm hO3;refine ad (wpAny_seqItems hO4 rfl ?_);refine ad (oZ hO4 λp5 hO5 b5=>?_)
 replace hO5:bX p5 TO x y c:=hO5
 refine ad (wpAny_letGo (am ?_));refine ad (ad (wpAny_onRaise ?_));show wpAny _ _ (Builtin.SmallTypes.nextOf (.ref i3) >>= _) _ _ _;refine ad (cy (g3.to λo e=>b5.extBut _ o D.i3TO (b4.extBut _ o D.i3i2 (b3.extBut _ o D.i3TO (b2.extBut _ o D.i3i1 (b1.extBut _ o D.i3z e))))) (t3.to λo e=>b5.extBut _ o D.l3TO (b4.extBut _ o D.l3i2 (b3.extBut _ o D.l3TO (b2.extBut _ o D.l3i1 (b1.extBut _ o D.l3z e))))) hv λp6 g3b b6=>am ?_);have hO6:bX p6 TO x y c:=b6.extBut _ _ D.i3TO.symm hO5;refine ad (wpAny_seqItems hO6 rfl ?_);refine ad (oZ hO6 λp7 hO7 b7=>?_)
 replace hO7:bX p7 TO x y v:=hO7
 refine ad (wpAny_letGo (am (am ?_)));refine ad (wpAny_seqItems hO7 rfl ?_);refine ad (wpAny_newTuple ?_);have hsz:p7.objs.size=s.heap.objs.size:=by rw[b7.1,b6.1,b5.1,b4.1,b3.1,b2.1,b1.1]
 have z5:aV p7 z TI TO .ellipsis f1:=b7.extBut _ _ D.TOz.symm (b6.extBut _ _ D.i3z.symm (b5.extBut _ _ D.TOz.symm (b4.extBut _ _ D.i2z.symm (b3.extBut _ _ D.TOz.symm (b2.extBut _ _ D.i1z.symm z1)))));have k5:∀ c o,c≠z->c≠TO->c≠i1->c≠i2->c≠i3->s.heap.get? c=some o->p7.get? c=some o:=λc o n1 n2 n3 n4 n5 e=>b7.extBut _ _ n2 (b6.extBut _ _ n5 (b5.extBut _ _ n2 (b4.extBut _ _ n4 (b3.extBut _ _ n2 (b2.extBut _ _ n3 (b1.extBut _ _ n1 e))))))
 have g15:aD tp1 p7 i1 l1 (k1+1):=g1b.to λo e=>b7.extBut _ o D.i1TO (b6.extBut _ o D.i3i1.symm (b5.extBut _ o D.i1TO (b4.extBut _ o D.i2i1.symm (b3.extBut _ o D.i1TO e))))
 have g25:aD tp2 p7 i2 l2 (k2+1):=g2b.to λo e=>b7.extBut _ o D.i2TO (b6.extBut _ o D.i3i2.symm (b5.extBut _ o D.i2TO e))
 have g35:aD tp3 p7 i3 l3 (k3+1):=g3b.to λo e=>b7.extBut _ o D.i3TO e
 have zlt:z<p7.objs.size:=u8 z5;show wpAny _ _ (Builtin.SmallTypes.ownedTupleHandOut (.ref z) (.ref p7.objs.size) >>= _) _ _ _;refine ad ?_;unfold Builtin.SmallTypes.ownedTupleHandOut;have z6:aV (p7.push { cls:=.type "tuple",data:=.seq #[x,y,v] }) z TI TO .ellipsis f1:=tz _ z5;refine ad (wpAny_setField_rec z6 (by simp) λp8 z7 b8=>?_)
 replace z7:aV p8 z TI TO (rawInt p7.objs.size) f1:=z7
 refine wpAny_setField_rec z7 (by simp) λp9 z8 b9=>?_
 replace z8:aV p9 z TI TO (rawInt p7.objs.size) (.bool false):=z8
 have up:∀ c o,c≠z->p7.get? c=some o->p9.get? c=some o:=λc o n1 e=>b9.extBut _ _ n1 (b8.extBut _ _ n1 (tz _ e))
 have hT:bX p9 p7.objs.size x y v:=b9.extBut _ _ (Nat.ne_of_gt zlt) (b8.extBut _ _ (Nat.ne_of_gt zlt) (ul _ rfl));have h8:p9.objs.size=p7.objs.size+1:=by rw[b9.1,b8.1,Heap.size_push]
 rw[hsz] at z8 hT h8;refine am ⟨_,rfl,?_⟩;rw[hsz];exact am (q p9 z8 (up _ _ D.TOz hO7) (g15.to λo e=>up _ o D.i1z e) (g25.to λo e=>up _ o D.i2z e) (g35.to λo e=>up _ o D.i3z e) hT h8 λc o n1 n2 n3 n4 n5 e=>up c o n1 (k5 c o n1 n2 n3 n4 n5 e))
def DE (hh:A.handled=none)(D:Kv z TI TO i1 i2 i3 l1 l2 l3)(hz:aV s.heap z TI TO .none f1)(hI:bX s.heap TI (.ref i1) (.ref i2) (.ref i3))
  (g1:aD tp1 s.heap i1 l1 k1) (t1:aT tp1 s.heap l1 xs) (e1:xs[k1]? =none)
  (q:∀ h',(∀ c o,c≠z->c≠TO->c≠i1->c≠i2->c≠i3->s.heap.get? c=some o->h'.get? c=some o)->Q none { s with heap:=h' }):wpAny (model prog w) A (pyNext (.ref z)) Q E s:=by
 have hT':s.TypeIs (.ref z) "zip":=⟨_,hz,rfl⟩;unfold pyNext;refine ad (wpAny_attempt (wpAny_callSpecial?_slot (name:=Str.ofString "__next__") hT' F.slot_zip_next (wpAny_call_entry F.slot_zip_next hT' F.entry_zip_next ?_ (F.args_zip_next_1 _))));show wpAny _ _ (field (.ref z) 2 >>= _) _ _ _;refine ad (ap (x:=.bool false) hz rfl rfl ?_);show wpAny _ _ (field (.ref z) 3 >>= _) _ _ _;refine ad (ap (x:=.ref TI) hz rfl rfl ?_);refine ad (wpAny_seqItems hI rfl ?_);show wpAny _ _ (Builtin.SmallTypes.ownedTupleIsFree (.ref z) >>= _) _ _ _;refine ad ?_;unfold Builtin.SmallTypes.ownedTupleIsFree;refine ad (ap (x:=.none) hz rfl rfl (am ?_));simp only[if_true];refine ad (wpAny_rule ?_);refine ad (ap (x:=.ref TO) hz rfl rfl ?_);refine ad (wpAny_setField_rec hz (by simp) λp1 z1 b1=>?_)
 replace z1:aV p1 z TI TO .ellipsis f1:=z1
 refine ad ?_;simp only[zipIdx_cons,zipIdx_nil,forIn_cons,forIn_nil];refine ad (ad (wpAny_onRaise ?_));show wpAny _ _ (Builtin.SmallTypes.nextOf (.ref i1) >>= _) _ _ _;refine ad (jQ hh (g1.to λo e=>b1.extBut _ o D.i1z e) (t1.to λo e=>b1.extBut _ o D.l1z e) e1 λp2 e b2 he=>?_);obtain ⟨oe,ho,hc⟩:=he;have z2:aV p2 z TI TO .ellipsis f1:=b2 _ _ D.i1z.symm z1;have ne:e≠z:=λn=>by subst n;rw[z2] at ho;cases ho;simp at hc
 exact wpAny_setField_rec z2 (by simp) λp3 _ b3=>ad (wpAny_isInstance (T:="StopIteration") (b:=true) ⟨oe,b3.extBut _ _ ne ho,hc⟩ isSubtype_stop (am (q _ λc o n1 _ n3 _ _ v=>b3.extBut _ _ n1 (b2 _ _ n3 (b1.extBut _ _ n1 v)))))
noncomputable abbrev ym (h:Heap)(tp1 tp2 tp3:Bool)(l1 l2 l3:Addr):Heap:=(((((h.push (i6 tp1 l1)).push (i6 tp2 l2)).push (i6 tp3 l3)).push (xC #[.ref h.objs.size,.ref (h.objs.size+1),.ref (h.objs.size+2)])).push (xC #[.none,.none,.none])).push (vV (h.objs.size+3) (h.objs.size+4))
set_option maxHeartbeats 4000000 in
def yA (tp1 tp2 tp3:Bool)(l1 l2 l3:Addr)(xs ys zs:Array Value):Meets (Builtin.«zip.__new__» ⟨[.type "zip",.ref l1,.ref l2,.ref l3],[]⟩)
  (λ_ R s=>aT tp1 s.heap l1 xs/\aT tp2 s.heap l2 ys/\aT tp3 s.heap l3 zs/\R (.ok (.ret (.ref (s.heap.objs.size+5)))) { s with heap:=ym s.heap tp1 tp2 tp3 l1 l2 l3 }):=.of_wp λprog w A R s h=>by
 obtain ⟨hp,g,d,tk,os⟩:=s;obtain ⟨t1,t2,t3,q⟩:=h;have hsub:=sub_zip;have t2':aT tp2 (hp.push (i6 tp1 l1)) l2 ys:=t2.to λo e=>tz _ e
 have t3':aT tp3 ((hp.push (i6 tp1 l1)).push (i6 tp2 l2)) l3 zs:=t3.to λo e=>tz _ (tz _ e)
 wp_walk using fc (s:=⟨hp,g,d,tk,os⟩) t1,fc (s:=⟨hp.push (i6 tp1 l1),g,d,tk,os⟩) t2',fc (s:=⟨(hp.push (i6 tp1 l1)).push (i6 tp2 l2),g,d,tk,os⟩) t3'
 refine ⟨_,rfl,?_⟩;simp only[Heap.size_push,Nat.add_assoc] at q⊢;exact q
def xq {Q:M6}(t1:aT tp1 s.heap l1 xs)(t2:aT tp2 s.heap l2 ys)(t3:aT tp3 s.heap l3 zs)
  (q:∀ h',aV h' (s.heap.objs.size+5) (s.heap.objs.size+3) (s.heap.objs.size+4) .none (.bool false)->bX h' (s.heap.objs.size+3) (.ref s.heap.objs.size) (.ref (s.heap.objs.size+1)) (.ref (s.heap.objs.size+2))->
   bX h' (s.heap.objs.size+4) .none .none .none->aD tp1 h' s.heap.objs.size l1 0->aD tp2 h' (s.heap.objs.size+1) l2 0->aD tp3 h' (s.heap.objs.size+2) l3 0->h'.objs.size=s.heap.objs.size+6->
   (∀ c o,s.heap.get? c=some o->h'.get? c=some o)->Q (.ref (s.heap.objs.size+5)) { s with heap:=h' }):
  wpAny (model prog w) A (call (.type "zip") [.ref l1,.ref l2,.ref l3]) Q E s:=by
 refine callType_new F.called_zip (by decide) (kF _ _ _) (lH _ _ _) (λobj=>gp obj _ _ _) F.entry_zip_new (yA tp1 tp2 tp3 l1 l2 l3 xs ys zs) ⟨t1,t2,t3,?_⟩;generalize hn:s.heap.objs.size=n at q⊢;have hz:ym s.heap tp1 tp2 tp3 l1 l2 l3=(((((s.heap.push (i6 tp1 l1)).push (i6 tp2 l2)).push (i6 tp3 l3)).push (xC #[.ref n,.ref (n+1),.ref (n+2)])).push (xC #[.none,.none,.none])).push (vV (n+3) (n+4)):=by rw[<-hn]
 obtain ⟨_,a1,e0,z0,k0⟩:=yC (i6 tp1 l1) hn;obtain ⟨_,a2,e1,z1,k1⟩:=yC (i6 tp2 l2) z0;obtain ⟨_,a3,e2,z2,k2⟩:=yC (i6 tp3 l3) z1;obtain ⟨_,a4,e3,z3,k3⟩:=yC (xC #[.ref n,.ref (n+1),.ref (n+2)]) z2;obtain ⟨_,a5,e4,z4,k4⟩:=yC (xC #[.none,.none,.none]) z3;obtain ⟨_,a6,e5,z5,k5⟩:=yC (vV (n+3) (n+4)) z4;rw[hz,a1,a2,a3,a4,a5,a6];have up:=λc o e=>k5 c o (k4 c o (k3 c o e))
 exact ⟨⟨_,e5,rfl⟩,q _ e5 (k5 _ _ (k4 _ _ e3)) (k5 _ _ e4) ((JX e0).to λo e=>up _ _ (k2 _ _ (k1 _ _ e))) ((JX e1).to λo e=>up _ _ (k2 _ _ e)) ((JX e2).to λo e=>up _ _ e) z5 λc o e=>up _ _ (k2 _ _ (k1 _ _ (k0 _ _ e)))⟩
def Bs {n:Addr}(a1:l1<n)(a2:l2<n)(a3:l3<n):Kv (n+5) (n+3) (n+4) n (n+1) (n+2) l1 l2 l3:=by
 constructor<;>(intro e;have e':=(show @Eq Nat _ _ from e);have b1:=(show @LT.lt Nat _ l1 n from a1);have b2:=(show @LT.lt Nat _ l2 n from a2);have b3:=(show @LT.lt Nat _ l3 n from a3);omega)
end
abbrev CN (K:W.Frag)(tp1:Bool)(l1:Addr)(tp2:Bool)(l2:Addr)(tp3:Bool)(l3:Addr):It:=
 ⟨λi H=>∃ xs ys zs x y v,Sq K tp1 H l1 xs/\Sq K tp2 H l2 ys/\Sq K tp3 H l3 zs/\xs[i]? =some x/\ys[i]? =some y/\zs[i]? =some v,
  λi H r H'=>∃ T x y v,H T=none/\r=.ref T/\H'=upd H T (.tup [x,y,v])/\(∀ xs,Sq K tp1 H l1 xs->xs[i]? =some x)/\(∀ ys,Sq K tp2 H l2 ys->ys[i]? =some y)/\∀ zs,Sq K tp3 H l3 zs->zs[i]? =some v,
  λi H=>∃ xs,Sq K tp1 H l1 xs/\xs.length<=i⟩
def vN {w:World}{tp1 tp2 tp3:Bool}{z TI TO i1 i2 i3 l1 l2 l3:Addr}(D:Kv z TI TO i1 i2 i3 l1 l2 l3):
  Turn P w K (.Tuple elts k pos) (CN K tp1 l1 tp2 l2 tp3 l3) [z,TI,TO,i1,i2,i3] z (λi h=>(∃ f1,aV h z TI TO .none f1)/\bX h TI (.ref i1) (.ref i2) (.ref i3)/\(∃ a b c,bX h TO a b c)/\aD tp1 h i1 l1 i/\aD tp2 h i2 l2 i/\aD tp3 h i3 l3 i) where
 mem:=by simp
 obj:=λi h st b hb=>by
  obtain ⟨⟨f1,hz⟩,hI,⟨a,b',c,hO⟩,g1,g2,g3⟩:=st;have it:∀ {tp:Bool}{j c:Addr}{k:Nat},aD tp h j c k->∃ o,h.get? j=some o/\∀ v,o.data≠.cell v:=λ{tp j c k} g=>by
   cases tp
   ·obtain ⟨o,e,_,d⟩:=(show h.IsListIter j c k from g);exact ⟨o,e,λv z=>by rw[d] at z;cases z⟩
   ·obtain ⟨o,e,_,d⟩:=(show h.IsTupleIter j c k from g);exact ⟨o,e,λv z=>by rw[d] at z;cases z⟩
  simp only[lw,not_mem_nil,or_false] at hb;rcases hb with rfl|rfl|rfl|rfl|rfl|rfl
  ·exact ⟨_,hz,λv e=>by cases (show Data.fields _=Data.cell v from e)⟩
  ·exact ⟨_,hI,λv e=>by cases (show Data.seq _ _=Data.cell v from e)⟩
  ·exact ⟨_,hO,λv e=>by cases (show Data.seq _ _=Data.cell v from e)⟩
  ·exact it g1
  ·exact it g2
  ·exact it g3
 keep:=λi h h' st k=>by
  obtain ⟨⟨f1,hz⟩,hI,⟨a,b',c,hO⟩,g1,g2,g3⟩:=st;exact ⟨⟨f1,k z (by simp) _ hz⟩,k TI (by simp) _ hI,⟨a,b',c,k TO (by simp) _ hO⟩,g1.to λo e=>k i1 (by simp) o e,g2.to λo e=>k i2 (by simp) o e,g3.to λo e=>k i3 (by simp) o e⟩
 item:=by
  intro X hP hw hK hc i Y s U H E I hf st hg;subst hP hw hK;obtain ⟨xs,ys,zs,x,y,v,hq1,hq2,hq3,hx,hy,hv⟩:=hg;obtain ⟨⟨f1,hz⟩,hI,⟨a,b,c,hO⟩,g1,g2,g3⟩:=st;obtain ⟨is1,r1,t1⟩:=I.sq hq1;obtain ⟨is2,r2,t2⟩:=I.sq hq2;obtain ⟨is3,r3,t3⟩:=I.sq hq3;obtain ⟨u1,hu1,ru1⟩:=r1.get hx;obtain ⟨u2,hu2,ru2⟩:=r2.get hy;obtain ⟨u3,hu3,ru3⟩:=r3.get hv;have n0:∀ {c o},s.heap.get? c=some o->c≠s.heap.objs.size:=λe=>pc (u8 e)
  refine AS D hz hI hO g1 g2 g3 t1 t2 t3 (x:=u1) (y:=u2) (v:=u3) (by simpa using hu1) (by simpa using hu2) (by simpa using hu3) λh1 z1 o1 j1 j2 j3 hT hs1 k1=>?_
  have I1:Inv X Y U (upd H s.heap.objs.size (.tup [x,y,v])) { s with heap:=h1,toks:=s.toks }:=
   I.g7 (ch:=[z,TI,TO,i1,i2,i3]) (λb o hb q=>k1 b o (λe=>hb (by simp[e])) (λe=>hb (by simp[e])) (λe=>hb (by simp[e])) (λe=>hb (by simp[e])) (λe=>hb (by simp[e])) q) hf (pi _)
    ⟨fits (ol rfl),[u1,u2,u3],.cons ru1 (.cons ru2 (.cons ru3 .nil)),⟨_,hT,rfl,_,rfl⟩⟩
  refine ⟨_,rfl,mL z1 λh2 z2 b2=>?_⟩;obtain ⟨f0,f1',f2,f3,f4,f5⟩:=hf z (by simp);have I2:=I1.turned (h':=h2) (t':=s.toks) (it:=z) (λb o hb q=>(b2.2 b hb).trans q) (by rw[ag (n0 hz)];exact f0) f1' f3 f4 f5;refine ⟨.ref s.heap.objs.size,_,I2,rfl,⟨_,x,y,v,I.hok.fresh (pi _),rfl,rfl,λzs hz'=>?_,λzs hz'=>?_,λzs hz'=>?_⟩,⟨⟨_,z2⟩,?_,⟨_,_,_,b2.extBut _ _ D.TOz o1⟩,j1.to λo e=>b2.extBut _ o D.i1z e,j2.to λo e=>b2.extBut _ o D.i2z e,j3.to λo e=>b2.extBut _ o D.i3z e⟩,λb hb=>?_⟩
  ·rw[I.kW hz' hq1];exact hx
  ·rw[I.kW hz' hq2];exact hy
  ·rw[I.kW hz' hq3];exact hv
  ·exact b2.extBut _ _ D.TIz (k1 _ _ D.TIz D.TOTI.symm D.i1TI.symm D.i2TI.symm D.i3TI.symm hI)
  ·have hb':b≠s.heap.objs.size:=by
    simp only[lw,not_mem_nil,or_false] at hb;rcases hb with rfl|rfl|rfl|rfl|rfl|rfl
    ·exact n0 hz
    ·exact n0 hI
    ·exact n0 hO
    ·exact pc g1.lt
    ·exact pc g2.lt
    ·exact pc g3.lt
   rw[ag hb'];exact (hf b hb).1
 done:=by
  intro X hP hw hK hc i Y s U H E I hf st hg;subst hP hw hK;obtain ⟨xs,hq1,hx⟩:=hg;obtain ⟨⟨f1,hz⟩,hI,⟨a,b,c,hO⟩,g1,g2,g3⟩:=st;obtain ⟨is1,r1,t1⟩:=I.sq hq1;have e1:=r1.length;refine DE (I.ok.hd hc) D hz hI g1 t1 (by simp;omega) λh' k'=>⟨rfl,?_⟩
  exact I.vj (t':=s.toks) (ch:=[z,TI,TO,i1,i2,i3]) (λb o hb q=>k' b o (λe=>hb (by simp[e])) (λe=>hb (by simp[e])) (λe=>hb (by simp[e])) (λe=>hb (by simp[e])) (λe=>hb (by simp[e])) q) hf
 self:=λ_ _ _ _ _ st h=>by
  obtain ⟨⟨f1,hz⟩,_⟩:=st;exact fe hz h
abbrev EB (K:W.Frag)(v u t:V)(H:Hp)(R:It->Hp->Prop):Prop:=∃ tp1 l1 tp2 l2 tp3 l3,v=.ref l1/\u=.ref l2/\t=.ref l3/\(∃ xs,Sq K tp1 H l1 xs)/\(∃ ys,Sq K tp2 H l2 ys)/\(∃ zs,Sq K tp3 H l3 zs)/\R (CN K tp1 l1 tp2 l2 tp3 l3) H
abbrev Iy (K:W.Frag)(ta:TA):TI:=λU H R=>ta U H λvs H1=>∃ v u t,vs=[v,u,t]/\EB K v u t H1 R
def BH {X:Cx}{a b c:Expr}{ta:TA}{p pos':Pos}(hg:Gl X "zip") (hm:X.mg "zip"=none) (ha:PA X [a,b,c] ta) (hs:bm [a,b,c] X.env=(false,eval a X.env)::bm [b,c] X.env:=by rfl) (hpl:(backTo pos (bm [b,c] X.env)).any (·.1)=false:=by rfl):
  PI X (.Tuple elts k pos') (.Call (.Name "zip" p) [a,b,c] [] pos) (Iy X.K ta):=by
 intro Y s U H R I h;refine Call_ (bN I hg hm rO (PyProof.Rows.callWith_type1 (ax (ha pos Y s U H _ I h) λus s1 ⟨vs,H1,I1,r1,q1⟩=>?_) hs hpl));obtain ⟨v,u,t,e,tp1,l1,tp2,l2,tp3,l3,e1,e2,e3,⟨xs,q1⟩,⟨ys,q2⟩,⟨zs,q3⟩,q⟩:=q1;subst e e1 e2 e3;cases r1 with
 |cons r rr=>
  cases rr with
  |cons r' rr'=>
   cases rr' with
   |cons r'' rr''=>
   cases rr'';cases r;cases r';cases r'';obtain ⟨is1,s1',t1⟩:=I1.sq q1;obtain ⟨is2,s2',t2⟩:=I1.sq q2;obtain ⟨is3,s3',t3⟩:=I1.sq q3;refine xq t1 t2 t3 λh' hz hI hO g1 g2 g3 hsz hk=>?_
   refine fe hz ?_;refine ⟨s1.heap.objs.size+5,[s1.heap.objs.size+5,s1.heap.objs.size+3,s1.heap.objs.size+4,s1.heap.objs.size,s1.heap.objs.size+1,s1.heap.objs.size+2],_,_,H1,rfl,I1.kept (t':=s1.toks) hk,vN (Bs t1.lt t2.lt t3.lt),⟨⟨_,hz⟩,hI,⟨_,_,_,hO⟩,g1,g2,g3⟩,λb hb=>?_,q⟩;have hb':s1.heap.objs.size<=b:=by
    simp only[lw,not_mem_nil,or_false] at hb;rcases hb with rfl|rfl|rfl|rfl|rfl|rfl<;>first|exact pi _|exact Nat.le_add_right _ _
   exact I1.qO hb' (I1.hok.fresh hb')
end L2
namespace L2
open PySem PySem.Spec PyProof.Rows
inductive eO (K:W.Frag) (H:Hp):Nat->V->V->Bool->Prop where
 |flat {n:Nat}{x y:V}(fx:aU x=true) (fy:aU y=true):eO K H n x y (kQ x y)
 |same {n:Nat}(a:Addr):eO K H (n+1) (.ref a) (.ref a) true
 |ll {n:Nat}{a b:Addr}{xs ys:List V}{e:Nat->Bool}(ha:bc K H a xs) (hb:bc K H b ys) (hl:xs.length=ys.length) (h:∀ j x y,xs[j]? =some x->ys[j]? =some y->eO K H (n+1) x y (e j)):eO K H (n+2) (.ref a) (.ref b) ((List.range xs.length).all e)
 |tt {n:Nat}{a b:Addr}{xs ys:List V}{e:Nat->Bool}(ha:aS K H a xs) (hb:aS K H b ys) (h:∀ j x y,xs[j]? =some x->ys[j]? =some y->eO K H (n+1) x y (e j)):eO K H (n+2) (.ref a) (.ref b) ((List.range (min xs.length ys.length)).all e&&xs.length ==ys.length)
variable {A:Around}
section
variable {X:Cx}{Y:M7}{s:Shared}{U:St}{H:Hp}
def x6 {y x:V}{u v:Value}(ry:RelV y u)(rx:RelV x v)(fy:aU y=true)(fx:aU x=true):SeqAt.RcAt A s u v (kQ y x):=by
 cases y<;>first|cases fy|skip
 all_goals (cases x<;>first|cases fx|skip)
 all_goals (first|(obtain ⟨t,rfl⟩:=ry)|cases ry)
 all_goals (first|(obtain ⟨t',rfl⟩:=rx)|cases rx)
 ·exact SeqAt.RcAt.none_none
 ·exact SeqAt.RcAt.none_bool _
 ·exact SeqAt.RcAt.none_int _ _
 ·exact SeqAt.RcAt.none_str _ _
 ·exact SeqAt.RcAt.bool_none _
 ·exact SeqAt.RcAt.bool_bool _ _
 ·exact SeqAt.RcAt.bool_int _ _ _
 ·exact SeqAt.RcAt.bool_str _ _ _
 ·exact SeqAt.RcAt.int_none _ _
 ·exact SeqAt.RcAt.int_bool _ _ _
 ·exact SeqAt.RcAt.int_int _ _ _ _
 ·exact SeqAt.RcAt.int_str _ _ _ _
 ·exact SeqAt.RcAt.str_none _ _
 ·exact SeqAt.RcAt.str_bool _ _ _
 ·exact SeqAt.RcAt.str_int _ _ _ _
 ·exact SeqAt.RcAt.str_str _ _ _ _
def pP {y x:V}{u v:Value}(ry:RelV y u)(rx:RelV x v)(fy:aU y=true)(fx:aU x=true):SeqAt.RcNeAt A s u v (!kQ y x):=by
 cases y<;>first|cases fy|skip
 all_goals (cases x<;>first|cases fx|skip)
 all_goals (first|(obtain ⟨t,rfl⟩:=ry)|cases ry)
 all_goals (first|(obtain ⟨t',rfl⟩:=rx)|cases rx)
 ·exact SeqAt.RcNeAt.none_none
 ·exact SeqAt.RcNeAt.none_bool _
 ·exact SeqAt.RcNeAt.none_int _ _
 ·exact SeqAt.RcNeAt.none_str _ _
 ·exact SeqAt.RcNeAt.bool_none _
 ·exact SeqAt.RcNeAt.bool_bool _ _
 ·exact SeqAt.RcNeAt.bool_int _ _ _
 ·exact SeqAt.RcNeAt.bool_str _ _ _
 ·exact SeqAt.RcNeAt.int_none _ _
 ·exact SeqAt.RcNeAt.int_bool _ _ _
 ·exact SeqAt.RcNeAt.int_int _ _ _ _
 ·exact SeqAt.RcNeAt.int_str _ _ _ _
 ·exact SeqAt.RcNeAt.str_none _ _
 ·exact SeqAt.RcNeAt.str_bool _ _ _
 ·exact SeqAt.RcNeAt.str_int _ _ _ _
 ·exact SeqAt.RcNeAt.str_str _ _ _ _
def eqv_refl (I:Inv X Y U H s):∀ {n:Nat}{x y:V}{b:Bool},eO X.K H n x y b->x=y->b=true:=by
 intro n x y b h
 induction h with
 | @flat n x y fx fy=>
  rintro rfl;cases x<;>first|(exact absurd fx Bool.false_ne_true)|simp[kQ]
 |same a=>intro _;rfl
 | @ll n a b xs ys e ha hb hl h ih=>
  intro z;cases z;have:=I.kS ha hb;subst this;rw[all_eq_true];intro j hj;have hj':j<xs.length:=mem_range.mp hj;exact ih j _ _ (li hj') (li hj') rfl
 | @tt n a b xs ys e ha hb h ih=>
  intro z;cases z;have:=I.fq ha hb;subst this;rw[beq_self_eq_true,Bool.and_true,Nat.min_self,all_eq_true];intro j hj;have hj':j<xs.length:=mem_range.mp hj;exact ih j _ _ (li hj') (li hj') rfl
def pD (I:Inv X Y U H s):∀ {n:Nat}{x y:V}{b:Bool},eO X.K H n x y b->∀ {A:Around}{u v:Value},A.units+n<cLine->RelV x u->RelV y v->
  (SeqAt.EqAt A s u v b)/\(x=y\/SeqAt.RcAt A s u v b/\SeqAt.RcNeAt A s u v (!b)):=by
 intro n x y b h
 induction h with
 |flat fx fy=>intro A u v _ rx ry;exact ⟨zN rx ry fx fy,.inr ⟨x6 rx ry fx fy,pP rx ry fx fy⟩⟩
 |same a=>intro A u v _ rx ry;cases rx;cases ry;exact ⟨SeqAt.EqAt.same _,.inl rfl⟩
 | @ll n a b xs ys e ha hb hl h ih=>
  intro A u v hu rx ry;have hall:=eO.ll ha hb hl h;cases rx;cases ry
  by_cases hab:a=b
  ·subst hab;have z:=eqv_refl I hall rfl;rw[z];exact ⟨SeqAt.EqAt.same _,.inl rfl⟩
  obtain ⟨ia,ra,pa,_⟩:=I.list ha;obtain ⟨ib,rb,pb,_⟩:=I.list hb;have e1:ia.toArray.size=xs.length:=by rw[ii,ra.length]
  have e2:ib.toArray.size=ys.length:=by rw[ii,rb.length]
  have he:∀ j (h1:j<ia.toArray.size) (h2:j<ib.toArray.size),SeqAt.EqAt A.in1 s ia.toArray[j] ib.toArray[j] (e j):=λj h1 h2=>by
   obtain ⟨x1,f1,r1⟩:=jK ra h1;obtain ⟨y1,f2,r2⟩:=jK rb h2;exact (ih j x1 y1 f1 f2 (by show A.units+1+(n+1)<cLine;omega) r1 r2).1
  have rc:=SeqAt.RcAt.lists (A:=A) pa.isList pb.isList (by rw[e1,e2,hl]) nofun he;have rn:=SeqAt.RcNeAt.lists (A:=A) pa.isList pb.isList (by rw[e1,e2,hl]) nofun he;rw[e1] at rc rn;exact ⟨SeqAt.EqAt.of_refs hab rc,.inr ⟨rc,rn⟩⟩
 | @tt n a b xs ys e ha hb h ih=>
  intro A u v hu rx ry;have hall:=eO.tt ha hb h;cases rx;cases ry
  by_cases hab:a=b
  ·subst hab;have z:=eqv_refl I hall rfl;rw[z];exact ⟨SeqAt.EqAt.same _,.inl rfl⟩
  obtain ⟨ia,ra,pa,_⟩:=I.tuple ha;obtain ⟨ib,rb,pb,_⟩:=I.tuple hb;have e1:ia.toArray.size=xs.length:=by rw[ii,ra.length]
  have e2:ib.toArray.size=ys.length:=by rw[ii,rb.length]
  have he:∀ j (h1:j<ia.toArray.size) (h2:j<ib.toArray.size),SeqAt.EqAt A.in1 s ia.toArray[j] ib.toArray[j] (e j):=λj h1 h2=>by
   obtain ⟨x1,f1,r1⟩:=jK ra h1;obtain ⟨y1,f2,r2⟩:=jK rb h2;exact (ih j x1 y1 f1 f2 (by show A.units+1+(n+1)<cLine;omega) r1 r2).1
  have rc:=SeqAt.RcAt.tuples (A:=A) (show s.heap.IsTuple a ia.toArray from pa) (show s.heap.IsTuple b ib.toArray from pb) nofun he;have rn:=SeqAt.RcNeAt.tuples (A:=A) (show s.heap.IsTuple a ia.toArray from pa) (show s.heap.IsTuple b ib.toArray from pb) nofun he;rw[e1,e2] at rc rn;exact ⟨SeqAt.EqAt.of_refs hab rc,.inr ⟨rc,rn⟩⟩
@[irreducible] noncomputable def dC (K:W.Frag) (neg:Bool):R2:=λx y H Q=>∃ n b,eO K H n x y b/\n<=100/\(aU x=true\/x≠y\/(neg=false/\∃ a,x=.ref a/\rQ K H a)\/(neg=true/\∃ a,x=.ref a/\tG K H a))/\Q (.bl (if neg then !b else b)) H
def GP (hu:X.A.units+200<cLine):dr X (compareOp .Eq) (dC X.K false):=by
 intro Y s U H x y v u Q I rx ry h;unfold dC at h;obtain ⟨n,b,e,hn,hx,q⟩:=h;rcases (pD I e (A:=X.A) nofun rx ry).2 with z|⟨z,_⟩
 ·subst z;rcases hx with hx|hx
  ·have z:=eqv_refl I e rfl;have r:=x6 (s:=s) (A:=X.A) rx ry hx hx;have z2:=eqv_refl I (eO.flat (K:=X.K) (H:=H) (n:=0) hx hx) rfl;rw[z2] at r;rw[z] at q;exact PySem.EqBoolInt.of_rc r ⟨.bl true,H,I,rfl,q⟩
  rcases hx with hx|⟨_,a,rfl,hs⟩|⟨hx,_⟩
  ·exact absurd rfl hx
  ·have z:=eqv_refl I e rfl;rw[z] at q;cases rx;cases ry;exact PySem.EqBoolInt.of_rc (BG (A:=X.A) I hs nofun) ⟨.bl true,H,I,rfl,q⟩
  ·cases hx
 ·exact PySem.EqBoolInt.of_rc z ⟨.bl b,H,I,rfl,q⟩
def GK (hu:X.A.units+200<cLine):dr X (compareOp .NotEq) (dC X.K true):=by
 intro Y s U H x y v u Q I rx ry h;unfold dC at h;obtain ⟨n,b,e,hn,hx,q⟩:=h;rcases (pD I e (A:=X.A) nofun rx ry).2 with z|⟨_,z⟩
 ·subst z;rcases hx with hx|hx
  ·have z:=eqv_refl I e rfl;have r:=pP (s:=s) (A:=X.A) rx ry hx hx;have z2:=eqv_refl I (eO.flat (K:=X.K) (H:=H) (n:=0) hx hx) rfl;rw[z2] at r;rw[z] at q;exact PySem.EqBoolInt.of_rcne r ⟨.bl false,H,I,rfl,q⟩
  rcases hx with hx|⟨hx,_⟩|⟨_,a,rfl,hs⟩
  ·exact absurd rfl hx
  ·cases hx
  ·have z:=eqv_refl I e rfl;rw[z] at q;cases rx;cases ry;exact PySem.EqBoolInt.of_rcne (CQ (A:=X.A) I hs nofun) ⟨.bl false,H,I,rfl,q⟩
 ·exact PySem.EqBoolInt.of_rcne z ⟨.bl (!b),H,I,rfl,q⟩
end
@[irreducible] noncomputable def Bh (K:W.Frag) (a b:Addr) (H:Hp) (Q:VK):Prop:=(∃ xs ys,H a=some (.lst xs)/\H b=some (.lst ys)/\xs.length+ys.length<=100000/\∀ p,H p=none->Q (.ref p) (upd H p (.lst (xs++ys))))\/False
@[irreducible] noncomputable def BC (K:W.Frag) (a:Addr) (k:Int) (H:Hp) (Q:VK):Prop:=(∃ xs,H a=some (.lst xs)/\ -1000<=k/\k<=1000/\xs.length<=1000/\∀ p,H p=none->Q (.ref p) (upd H p (.lst (sw k.toNat xs).flatten)))\/False
abbrev FP (K:W.Frag):R2:=λx y H Q=>match x,y with
 | .int i,.int j=>Q (.int (i+j)) H
 | .str a,.str b=>a.length+b.length<=100000/\Q (.str (a++b)) H
 | .ref a,.ref b=>Bh K a b H Q
 |_,_=>False
abbrev GS:R2:=λx y H Q=>match x,y with
 | .int i,.int j=>Q (.int (i-j)) H
 |_,_=>False
abbrev Fh (K:W.Frag):R2:=λx y H Q=>match x,y with
 | .int i,.int j=>pL i j/\Q (.int (i*j)) H
 | .ref a,.int k=>BC K a k H Q
 |_,_=>False
abbrev FC:R2:=λx y H Q=>match x,y with
 | .int i,.int j=>(0<j/\j<1073741824)/\Q (.int (i / j)) H
 |_,_=>False
abbrev F0:R2:=λx y H Q=>match x,y with
 | .int i,.int j=>0<j/\Q (.int (i % j)) H
 |_,_=>False
abbrev GZ:R2:=λx y H Q=>match x,y with
 | .int i,.int j=>Cj i j/\Q (.int (i ^ j.toNat)) H
 |_,_=>False
abbrev Fs (K:W.Frag)(op:Operator):R2:=match op with
 | .Add=>FP K
 | .Sub=>GS
 | .Mult=>Fh K
 | .FloorDiv=>FC
 | .Mod=>F0
 | .Pow=>GZ
 |_=>λ_ _ _ _=>False
section
variable {X:Cx}
def kP {n:Nat}(h:n<=1000000):n<=bn:=by rw[sizeLine_eq];omega
def Gz (op:Operator):dr X (binaryOp op) (Fs X.K op):=by
 intro Y s U H x y v u Q I rx ry h;cases op with
 |Add=>
  have h':FP X.K x y H Q:=h;unfold FP at h'
  split at h'
  ·exact GV Y s U H _ _ v u Q I rx ry ⟨_,_,rfl,rfl,h'⟩
  ·exact rX Y s U H _ _ v u Q I rx ry ⟨_,_,rfl,rfl,kP nofun,h'.2⟩
  ·unfold Bh at h';rcases h' with ⟨xs,ys,ha,hb,hz,q⟩|h'
   ·exact FT Y s U H _ _ v u Q I rx ry ⟨_,_,xs,ys,rfl,rfl,ha,hb,kP nofun,q⟩
   ·exact h'.elim
  ·exact h'.elim
 |Sub=>
  have h':GS x y H Q:=h;unfold GS at h'
  split at h'
  ·exact GL Y s U H _ _ v u Q I rx ry ⟨_,_,rfl,rfl,h'⟩
  ·exact h'.elim
 |Mult=>
  have h':Fh X.K x y H Q:=h;unfold Fh at h'
  split at h'
  ·exact Fy Y s U H _ _ v u Q I rx ry ⟨_,_,rfl,rfl,h'.1,h'.2⟩
  ·rename_i k;unfold BC at h';rcases h' with ⟨xs,ha,h1,h2,hz,q⟩|h'
   ·refine Gb Y s U H _ _ v u Q I rx ry ⟨_,k,xs,rfl,rfl,ha,by omega,by omega,kP ?_,q⟩;have:xs.length*k.toNat<=1000*1000:=Nat.mul_le_mul hz nofun
    omega
   ·exact h'.elim
  ·exact h'.elim
 |FloorDiv=>
  have h':FC x y H Q:=h;unfold FC at h'
  split at h'
  ·exact Br Y s U H _ _ v u Q I rx ry ⟨_,_,rfl,rfl,h'.1,h'.2⟩
  ·exact h'.elim
 |Mod=>
  have h':F0 x y H Q:=h;unfold F0 at h'
  split at h'
  ·exact Hm Y s U H _ _ v u Q I rx ry ⟨_,_,rfl,rfl,h'.1,h'.2⟩
  ·exact h'.elim
 |Pow=>
  have h':GZ x y H Q:=h;unfold GZ at h'
  split at h'
  ·exact GH Y s U H _ _ v u Q I rx ry ⟨_,_,rfl,rfl,h'.1,h'.2⟩
  ·exact h'.elim
 |_=>exact (show False from h).elim
abbrev vW (f:Int->Int->Bool):R2:=λx y H Q=>match x,y with
 | .int i,.int j=>Q (.bl (f i j)) H
 |_,_=>False
@[irreducible] noncomputable def Ju (K:W.Frag) (neg:Bool):R2:=λx y H Q=>match y with
 | .ref p=>(∃ xs,(bc K H p xs\/aS K H p xs)/\aU x=true/\xs.all aU=true/\Q (.bl (if neg then !HI x xs else HI x xs)) H)\/False\/False
 | .str j=>False
 |_=>False
@[irreducible] noncomputable def A0 (neg:Bool):R2:=λx y H Q=>match y with
 | .non=>Q (.bl (if neg then !decide (x=.non) else decide (x=.non))) H
 | .bl b=>False
 | .ref b=>False
 |_=>False
abbrev qT (K:W.Frag)(op:CmpOp):R2:=match op with
 | .Eq=>dC K false
 | .NotEq=>dC K true
 | .Lt=>vW λi j=>decide (i<j)
 | .LtE=>vW λi j=>decide (i<=j)
 | .Gt=>vW λi j=>decide (j<i)
 | .GtE=>vW λi j=>decide (j<=i)
 | .In=>Ju K false
 | .NotIn=>λ_ _ _ _=>False
 | .Is=>A0 false
 | .IsNot=>A0 true
def og {f:Int->Int->Bool}{op:CmpOp}(ho:dr X (compareOp op) (Dg λi j=>.bl (f i j))):dr X (compareOp op) (vW f):=by
 intro Y s U H x y v u Q I rx ry h;unfold vW at h
 split at h
 ·exact ho Y s U H _ _ v u Q I rx ry ⟨_,_,rfl,rfl,h⟩
 ·exact h.elim
def FH (hu:X.A.units+200<cLine)(op:CmpOp):dr X (compareOp op) (qT X.K op):=by
 cases op with
 |Eq=>exact GP hu
 |NotEq=>exact GK hu
 |Lt=>exact og IA
 |LtE=>exact og JI
 |Gt=>exact og Kg
 |GtE=>exact og JO
 |In=>
  intro Y s U H x y v u Q I rx ry h;have h':Ju X.K false x y H Q:=h;unfold Ju at h'
  split at h'
  ·rcases h' with ⟨xs,hx,f1,f2,q⟩|g|z
   ·exact vX Y s U H _ _ v u Q I rx ry ⟨_,xs,rfl,hx,f1,f2,q⟩
   ·exact g.elim
   ·exact z.elim
  ·exact h'.elim
  ·exact h'.elim
 |NotIn=>exact λ_ _ _ _ _ _ _ _ _ _ _ _ h=>(show False from h).elim
 |Is=>
  intro Y s U H x y v u Q I rx ry h;have h':A0 false x y H Q:=h;unfold A0 at h'
  split at h'
  ·exact Gw Y s U H _ _ v u Q I rx ry ⟨rfl,h'⟩
  ·exact h'.elim
  ·exact h'.elim
  ·exact h'.elim
 |IsNot=>
  intro Y s U H x y v u Q I rx ry h;have h':A0 true x y H Q:=h;unfold A0 at h'
  split at h'
  ·exact DB Y s U H _ _ v u Q I rx ry ⟨rfl,h'⟩
  ·exact h'.elim
  ·exact h'.elim
  ·exact h'.elim
@[irreducible] noncomputable def qj (K:W.Frag):R2:=λx y H Q=>match x with
 | .ref p=>(∃ xs i v,y=.int i/\(bc K H p xs\/aS K H p xs)/\j7 xs i=some v/\Q v H)\/∃ v,F3 H p y (some v)/\Q v H
 | .str z=>False
 |_=>False
def sU (hu:X.A.units+200<cLine):Ib X (qj X.K):=by
 intro value slice Y s U H x y v u Q I rx ry h hs;unfold qj at h
 split at h
 ·rcases h with ⟨xs,i,w,rfl,hx,ha,q⟩|⟨w,g,q⟩
  ·rcases hx with hx|hx
   ·exact CC value slice Y s U H _ _ v u Q I rx ry ⟨_,xs,i,w,rfl,rfl,hx,ha,q⟩ hs
   ·exact F6 value slice Y s U H _ _ v u Q I rx ry ⟨_,xs,i,w,rfl,rfl,hx,ha,q⟩ hs
  ·cases rx;exact tail_any (qG I g) PySem.F.slot_dict_getitem.lookup (w4 nofun I g ry λw' s3 I3 rw'=>⟨w,H,I3,rw',q⟩) hs
 ·exact h.elim
 ·exact h.elim
@[irreducible] noncomputable def gH:vQ:=λo i v H Q=>match o with
 | .ref p=>(∃ xs k j,i=.int k/\H p=some (.lst xs)/\vZ xs.length k=some j/\Q (upd H p (.lst (xs.set j v))))\/∃ H4,IQ H p i v H4/\Q H4
 |_=>False
def uV (hu:X.A.units+200<cLine):B1 X gH:=by
 intro Y s U H o i v ov iv u Q I ro ri rv h;unfold gH at h
 split at h
 ·rcases h with ⟨xs,k,j,rfl,hp,hj,q⟩|⟨H4,g,q⟩
  ·exact set_list Y s U H _ _ v ov iv u Q I ro ri rv ⟨_,xs,k,j,rfl,rfl,hp,hj,q⟩
  ·cases ro;exact w9 nofun I g ri rv λs4 I4=>⟨H4,I4,q⟩
 ·exact h.elim
@[irreducible] noncomputable def Et (K:W.Frag):V->Option Int->Option Int->Hp->VK->Prop:=λx lo hi H Q=>match x with
 | .ref a=>(∃ xs,bc K H a xs/\∀ p,H p=none->Q (.ref p) (upd H p (.lst (gj xs lo hi))))\/False
 | .str z=>False
 |_=>False
def Fd:KP X (Et X.K):=by
 intro Y s U H x v vl vu lo hi sl Q I rx hs pl pu h;unfold Et at h
 split at h
 ·rcases h with ⟨xs,hx,q⟩|h
  ·exact BW Y s U H _ v vl vu lo hi sl Q I rx hs pl pu ⟨_,xs,rfl,hx,q⟩
  ·exact h.elim
 ·exact h.elim
 ·exact h.elim
end
end L2
namespace L3
open PySem L2
set_option genSizeOf false
inductive Bf where
 |len|list|tuple|int|str|min|max|abs|all|any|dict|sum
 deriving DecidableEq
inductive Lm where
 |append|extend|insert|pop|clear|reverse|count
 deriving DecidableEq
inductive Cl where
 |own (c:Nat)|ty (n:String)
mutual
inductive Ex where
 |v (i:Nat)|int (i:Int)|bl (b:Bool)|non|str (x:Str)|gl (x:Str)
 |bin (op:Operator) (a b:Ex)|neg (a:Ex)|not (a:Ex)|and (a b:Ex)|or (a b:Ex)
 |cmp (op:CmpOp) (a b:Ex)|cmp2 (o1 o2:CmpOp) (a b c:Ex)|cmp3 (o1 o2 o3:CmpOp) (a b c d:Ex)
 |ife (c:Tx) (a b:Ex)|tup (es:fY)|lst (es:fY)|ix (a i:Ex)|sl (a:Ex) (lo hi:KD)
 |fld (a:Ex) (f:Str)|call (f:Nat) (es:fY)|meth (a:Ex) (m:Str) (es:fY)|lm (m:Lm) (a:Ex) (es:fY)|make (c:Nat) (es:fY)|bini (es:fY)|cini (c:Nat) (es:fY)
 |bf (b:Bf) (es:fY)|isi (a:Ex) (c:Cl)|lc (elt:Ex) (sel:List Nat) (it:EM)|lci (elt:Ex) (c:Tx) (sel:List Nat) (it:EM)|lct (elt:Ex) (n:Nat) (sel:List Nat) (it:EM)|lcu (elt:Ex) (c:Tx) (n:Nat) (sel:List Nat) (it:EM)|dnew|up (a:Ex)|dzip (a b:Ex)|isiT (a:Ex) (cs:List Nat)|vals (tp:Bool) (a:Ex)|mk0 (c:Nat)|disp (ks:List Str) (es:fY)|lix (a b:Ex)|dget (a k d:Ex)
inductive Tx where
 |not (a:Tx)|and (a b:Tx)|or (a b:Tx)|cmp (op:CmpOp) (a b:Ex)|cmp2 (o1 o2:CmpOp) (a b c:Ex)|val (e:Ex)
inductive fY where
 |nil|cons (e:Ex) (es:fY)
inductive KD where
 |no|yes (e:Ex)
inductive EM where
 |rng1 (a:Ex)|rng2 (a b:Ex)|rng3 (a b c:Ex)|enm (a:Ex)|enf (a:Ex)|seq (a:Ex)|zip (a b:Ex)|zip3 (a b c:Ex)
end
inductive KI where
 |nm (i:Nat)|tp (is:List Nat)|nt (i:Nat) (is:List Nat)
mutual
inductive Sx where
 |asg (i:Nat) (e:Ex)|asgT (is:List Nat) (e:Ex)|par (is:List Nat) (es:fY)|sub (o i v:Ex)|fld (o:Ex) (f:Str) (v:Ex)
 |aug (i:Nat) (op:Operator) (e:Ex)|augS (o i:Ex) (op:Operator) (e:Ex)
 |ret (e:Ex)|retN|pass|brk|cont|expr (e:Ex)
 |ife (c:Tx) (a b:mM)|whl (c:Tx) (b:mM)|for (t:KI) (it:EM) (b:mM)|rais (e:Ex)|tryx (b:mM) (hs:A4)
inductive mM where
 |nil|cons (s:Sx) (r:mM)
inductive A4 where
 |nil|cons (c:Nat) (i:Nat) (b:mM) (hs:A4)
end
structure ao where
 ps:List Str
 N:List Str
 dfl:List V
 body:mM
/-- what of the text never changes. gfn,gcl:the global names of defs and classes,by number;gbl:built-in names that are not shadowed;gbi:classes of exceptions whose __init__ is the built-in one;na:class and name that no class of it has;
  me:class,name,def;ini:class,its __init__;oc,xc:plain classes,classes of exceptions;sub,subT:isinstance -/
structure Tab where
 fns:List ao
 gfn:List (Str×Nat)
 gcl:List (Str×Nat)
 gbl:List Str
 gbi:List Str
 na:List (Nat×Str)
 me:List ((Nat×Str)×Nat)
 ini:List (Nat×Nat)
 ini0:List Nat
 inip:List Nat
 oc:List Nat
 xc:List Nat
 sub:List ((Nat×Nat)×Bool)
 subT:List ((Nat×String)×Bool)
 subB:List ((String×String)×Bool)
 subO:List ((String×Nat)×Bool)
 cin:List (Nat×Nat):=[]
structure Rt where
 K:W.Frag
 fad:Nat->Addr
 cad:Nat->Addr
 gl:Str->Option V
structure Gx where
 T:Tab
 R:Rt
 Ψ:Nat->Sp
 cm:Bool
@[irreducible] noncomputable def jj (c:Bool) (A B:Prop):Prop:=match c with
 |true=>A
 |false=>B
def dG (c:Bool)(A B:Prop):jj c A B=(if c=true then A else B):=by unfold jj;cases c<;>rfl
abbrev GY (K:W.Frag)(x:V)(H:Hp)(Q:Bool->Hp->Prop):Prop:=match x with
 | .bl k=>Q k H
 |y=>∃ k,Cc K y H k/\Q k H
abbrev tyName:V->Hp->Option String
 | .non,_=>some "NoneType"
 | .bl _,_=>some "bool"
 | .int _,_=>some "int"
 | .str _,_=>some "str"
 | .ref a,H=>match H a with
  |some (.lst _)=>some "list"
  |some (.tup _)=>some "tuple"
  |some (.dK _)=>some "dict"
  |_=>none
 |_,_=>none
@[irreducible] noncomputable def lJ (G:Gx) (b:Bf) (vs:List V) (H:Hp) (Q:VK):Prop:=match b with
 | .len=>∃ x n,vs=[x]/\Jl G.R.K x H n/\Q (.int n) H
 | .list=>∃ p ys,vs=[.ref p]/\(bc G.R.K H p ys\/aS G.R.K H p ys)/\∀ l,H l=none->Q (.ref l) (upd H l (.lst ys))
 | .tuple=>∃ p ys,vs=[.ref p]/\((bc G.R.K H p ys/\∀ l,H l=none->Q (.ref l) (upd H l (.tup ys)))\/(aS G.R.K H p ys/\Q (.ref p) H))
 | .int=>(∃ i,vs=[.int i]/\Q (.int i) H)\/∃ k,vs=[.bl k]/\Q (.int (if k then 1 else 0)) H
 | .str=>(∃ i,vs=[.int i]/\i.natAbs.log2<1920/\Q (.str (toString i)) H)\/∃ z,vs=[.str z]/\Q (.str z) H
 | .min=>G.cm=true/\((∃ i j,vs=[.int i,.int j]/\Q (.int (if j<i then j else i)) H)\/False)
 | .max=>G.cm=true/\∃ i j,vs=[.int i,.int j]/\Q (.int (if j>i then j else i)) H
 | .abs=>False
 | .all=>G.cm=true/\∃ p,∃ bs:List Bool,vs=[.ref p]/\bc G.R.K H p (bs.map V.bl)/\Q (.bl (bs.all id)) H
 | .any=>False
 | .dict=>∃ p kvs,vs=[.ref p]/\H p=some (.dK kvs)/\∀ l,H l=none->Q (.ref l) (upd H l (.dK kvs))
 | .sum=>False
@[irreducible] noncomputable def Fi (m:Lm) (p:Addr) (xs:List V) (vs:List V) (H:Hp) (Q:VK):Prop:=match m with
 | .append=>∃ y,vs=[y]/\xs.length<=10000/\Q .non (upd H p (.lst (xs++[y])))
 | .extend=>∃ b zs,vs=[.ref b]/\H b=some (.lst zs)/\xs.length+zs.length<=10000/\Q .non (upd H p (.lst (xs++zs)))
 | .insert=>∃ i y,vs=[.int i,y]/\0<=i/\i<=xs.length/\xs.length<=10000/\Q .non (upd H p (.lst (xs.take i.toNat++y::xs.drop i.toNat)))
 | .pop=>False
 | .clear=>False
 | .reverse=>False
 | .count=>False
abbrev dflt (G:Gx)(f n:Nat):List V:=match G.T.fns[f]? with
 |some d=>d.dfl.drop (n+d.dfl.length-d.ps.length)
 |none=>[]
abbrev fY.len:fY->Nat
 | .nil=>0
 | .cons _ es=>es.len+1
abbrev uh (G:Gx)(H:Hp)(a:Addr)(i:Nat):Prop:=(G.T.oc.contains i=true/\∃ dx fs,H a=some (.ins (G.R.cad i) dx fs))\/(G.T.xc.contains i=true/\∃ dx fs fr,H a=some (.exc (G.R.cad i) dx fs fr))
@[irreducible] noncomputable def lq (G:Gx) (c:Cl) (x:V) (H:Hp) (Q:VK):Prop:=match c with
 | .ty n=>(∃ t b,tyName x H=some t/\G.T.subB.lookup (t,n)=some b/\Q (.bl b) H)\/∃ a i b,x=.ref a/\uh G H a i/\G.T.subT.lookup (i,n)=some b/\Q (.bl b) H
 | .own j=>(∃ t b,tyName x H=some t/\G.T.subO.lookup (t,j)=some b/\Q (.bl b) H)\/∃ a i b,x=.ref a/\uh G H a i/\G.T.sub.lookup (i,j)=some b/\Q (.bl b) H
abbrev anyS (G:Gx)(i:Nat):List Nat->Option Bool
 | []=>some false
 |c::r=>match G.T.sub.lookup (i,c) with
  |some true=>some true
  |some false=>anyS G i r
  |none=>none
abbrev B7 (G:Gx)(t:String):List Nat->Option Bool
 | []=>some false
 |c::r=>match G.T.subO.lookup (t,c) with
  |some true=>some true
  |some false=>B7 G t r
  |none=>none
@[irreducible] noncomputable def rl (G:Gx) (cs:List Nat) (x:V) (H:Hp) (Q:VK):Prop:=(∃ t b,tyName x H=some t/\B7 G t cs=some b/\Q (.bl b) H)\/∃ a i b,x=.ref a/\uh G H a i/\anyS G i cs=some b/\Q (.bl b) H
@[irreducible] noncomputable def rC (G:Gx) (f:Str) (x:V) (H:Hp) (Q:VK):Prop:=∃ a i fs v,x=.ref a/\((G.T.oc.contains i=true/\∃ dx,H a=some (.ins (G.R.cad i) dx fs))\/(G.T.xc.contains i=true/\∃ dx fr,H a=some (.exc (G.R.cad i) (some dx) fs fr)))/\
 G.T.na.contains (i,f)=true/\fs.lookup f=some v/\Q v H
@[irreducible] noncomputable def Ct (G:Gx) (f:Str) (x y:V) (H:Hp) (Q:Hp->Prop):Prop:=∃ a i,x=.ref a/\G.T.na.contains (i,f)=true/\
 ((∃ dx fs,G.T.oc.contains i=true/\H a=some (.ins (G.R.cad i) dx fs)/\fs.length<1000/\Q (upd H a (.ins (G.R.cad i) dx (cM f y fs))))\/
  (∃ d fs fr,G.T.xc.contains i=true/\H a=some (.exc (G.R.cad i) (some d) fs fr)/\fs.length<1000/\Q (upd H a (.exc (G.R.cad i) (some d) (cM f y fs) fr)))\/
  (∃ fr,G.T.xc.contains i=true/\H a=some (.exc (G.R.cad i) none [] fr)/\∀ d,H d=none->Q (upd (upd H d (.own a)) a (.exc (G.R.cad i) (some d) [(f,y)] fr))))
abbrev LI (op:Operator)(x y:V)(H:Hp)(Q:VK):Prop:=match op,x,y with
 | .Add,.int i,.int j=>Q (.int (i+j)) H
 | .Sub,.int i,.int j=>Q (.int (i-j)) H
 |_,_,_=>False
@[irreducible] noncomputable def AV (K:W.Frag) (x y:V) (H:Hp) (Q:VK):Prop:=match x,y with
 | .ref p,.int i=>∃ xs v,bc K H p xs/\0<=i/\xs[i.toNat]? =some v/\Q v H
 |_,_=>False
abbrev wU (U:St):List Nat->List V->St
 |i::is,x::xs=>wU (U.set i (some x)) is xs
 |_,_=>U
@[irreducible] noncomputable def BO (xs:List V) (H:Hp) (Q:VK):Prop:=xs.length<=10000/\∀ p,H p=none->Q (.ref p) (upd H p (.lst xs))
@[irreducible] noncomputable def iK (xs:List V) (H:Hp) (Q:VK):Prop:=xs.length<=10000/\∀ p,H p=none->Q (.ref p) (upd H p (.tup xs))
@[irreducible] noncomputable def Cu (l:Addr) (H:Hp) (R:It->Hp->Prop):Prop:=(∃ xs,H l=some (.lst xs))/\R (Jq l) H
@[irreducible] noncomputable def CD (K:W.Frag) (l:Addr) (H:Hp) (R:It->Hp->Prop):Prop:=(∃ xs,aS K H l xs)/\R (IX K l) H
@[irreducible] noncomputable def tH (K:W.Frag) (p:Addr) (H:Hp) (R:It->Hp->Prop):Prop:=((∃ xs,bc K H p xs)/\R (BM K p) H)\/((∃ xs,aS K H p xs)/\R (J4 K p) H)
@[irreducible] noncomputable def C5 (K:W.Frag) (x y:V) (H:Hp) (R:It->Hp->Prop):Prop:=Il K x y H R
@[irreducible] noncomputable def um (K:W.Frag) (x y v:V) (H:Hp) (R:It->Hp->Prop):Prop:=EB K x y v H R
@[irreducible] noncomputable def pv (tp:Bool) (x:V) (H:Hp) (Q:VK):Prop:=DU tp x H Q
@[irreducible] noncomputable def AI (C:Addr) (H:Hp) (Q:VK):Prop:=∀ x dx,H x=none->H dx=none->dx≠x->Q (.ref x) (upd (upd H dx (.own x)) x (.ins C dx []))
@[irreducible] noncomputable def JF (K:W.Frag) (x y:V) (H:Hp) (Q:VK):Prop:=Ms K x y H Q
@[irreducible] noncomputable def C0 (p:Addr) (y w:V) (H:Hp) (Q:VK):Prop:=∃ kvs k,H p=some (.dK kvs)/\y=kV k/\Q ((di kvs k).getD w) H
@[irreducible] noncomputable def wa (te:TE) (J:It) (σ₀:St) (H1:Hp) (Q:VK):Prop:=LC te J σ₀ H1 Q
def Ap: @wa= @LC:=by
 funext te J U H Q
 unfold wa
 rfl
@[irreducible] noncomputable def Fz (tc:TT) (te:TE) (J:It) (σ₀:St) (H1:Hp) (Q:VK):Prop:=LCg (gX 0) tc te J σ₀ H1 Q
def xT: @Fz= @LCg (gX 0):=by
 funext tc te J U H Q
 unfold Fz
 rfl
abbrev gl (is:List Nat):CF:=λvs U H Q=>vs.length=is.length/\Q (wU U is vs) H
@[irreducible] noncomputable def LCt (K:W.Frag) (n:Nat) (te:TE) (J:It) (σ₀:St) (H1:Hp) (Q:VK):Prop:=LCg (CK K n (gl (List.range n))) yes te J σ₀ H1 Q
def yr {K:W.Frag}{n:Nat}:LCt K n=LCg (CK K n (gl (List.range n))) yes:=by
 funext te J U H Q
 unfold LCt
 rfl
abbrev Fm:List Str->List V->List (Key×V)
 |k::ks,x::xs=>(.inr k,x)::Fm ks xs
 |_,_=>[]
@[irreducible] noncomputable def mf (ks:List Str) (p:Addr) (xs:List V) (H:Hp) (Q:VK):Prop:=H p=some (.dK [])/\Q (.ref p) (upd H p (.dK (gm [] (Fm ks xs))))
mutual
noncomputable def wE (G:Gx):Ex->St->Hp->VK->XK->Prop
 | .v i,U,H,Q,_=>match U[i]? with
  |some (some x)=>Q x H
  |_=>False
 | .int i,_,H,Q,_=>Q (.int i) H
 | .bl b,_,H,Q,_=>Q (.bl b) H
 | .non,_,H,Q,_=>Q .non H
 | .str x,_,H,Q,_=>Q (.str x) H
 | .gl x,_,H,Q,_=>match G.R.gl x with
  |some v=>Q v H
  |none=>False
 | .bin op a b,U,H,Q,E=>wE G a U H (λx H1=>wE G b U H1 (λy H2=>Fs G.R.K op x y H2 Q) E) E
 | .neg a,U,H,Q,E=>wE G a U H (λx H1=>match x with| .int i=>Q (.int (-i)) H1|_=>False) E
 | .not a,U,H,Q,E=>wE G a U H (λx H1=>match x with| .bl c=>Q (.bl (!c)) H1|_=>False) E
 | .and a b,U,H,Q,E=>wE G a U H (λx H1=>match x with| .bl c=>jj c (wE G b U H1 Q E) (Q (.bl false) H1)|_=>False) E
 | .or a b,U,H,Q,E=>wE G a U H (λx H1=>match x with| .bl c=>jj c (Q (.bl true) H1) (wE G b U H1 Q E)|_=>False) E
 | .cmp op a b,U,H,Q,E=>wE G a U H (λx H1=>wE G b U H1 (λy H2=>qT G.R.K op x y H2 Q) E) E
 | .cmp2 o1 o2 a b c,U,H,Q,E=>wE G a U H (λx H1=>wE G b U H1 (λy H2=>qT G.R.K o1 x y H2 λz H3=>match z with| .bl k=>jj k (wE G c U H3 (λw H4=>qT G.R.K o2 y w H4 Q) E) (Q (.bl false) H3)|_=>False) E) E
 | .cmp3 o1 o2 o3 a b c d,U,H,Q,E=>False
 | .ife c a b,U,H,Q,E=>wT G c U H (λk H1=>jj k (wE G a U H1 Q E) (wE G b U H1 Q E)) E
 | .tup es,U,H,Q,E=>wEs G es U H (λxs H1=>iK xs H1 Q) E
 | .lst es,U,H,Q,E=>wEs G es U H (λxs H1=>BO xs H1 Q) E
 | .ix a i,U,H,Q,E=>wE G a U H (λx H1=>wE G i U H1 (λy H2=>qj G.R.K x y H2 Q) E) E
 | .sl a lo hi,U,H,Q,E=>wE G a U H (λx H1=>wO G lo U H1 (λl H2=>wO G hi U H2 (λu H3=>Et G.R.K x l u H3 Q) E) E) E
 | .fld a f,U,H,Q,E=>wE G a U H (λx H1=>rC G f x H1 Q) E
 | .call f es,U,H,Q,E=>G.cm=true/\wEs G es U H (λvs H1=>G.Ψ f (vs++dflt G f es.len) H1 Q E) E
 | .meth a m es,U,H,Q,E=>G.cm=true/\wE G a U H (λx H1=>∃ p i dx fs f,x=.ref p/\H1 p=some (.ins (G.R.cad i) dx fs)/\fs.lookup m=none/\G.T.me.lookup (i,m)=some f/\
   wEs G es U H1 (λvs H2=>G.Ψ f (x::(vs++dflt G f (es.len+1))) H2 Q E) E) E
 | .lm m a es,U,H,Q,E=>wE G a U H (λx H1=>∃ p xs0,x=.ref p/\H1 p=some (.lst xs0)/\wEs G es U H1 (λvs H2=>∃ xs,H2 p=some (.lst xs)/\Fi m p xs vs H2 Q) E) E
 | .make c es,U,H,Q,E=>G.cm=true/\match G.T.ini.lookup c with
  |none=>G.T.ini0.contains c=true/\wEs G es U H (λvs H1=>vs.length=1/\∀ x,H1 x=none->Q (.ref x) (upd H1 x (.exc (G.R.cad c) none [] true))) E
  |some f=>if G.T.xc.contains c=true then wEs G es U H (λvs H1=>vs.length<=1000/\∀ x,H1 x=none->G.Ψ f (.ref x::(vs++dflt G f (es.len+1))) (upd H1 x (.exc (G.R.cad c) none [] true)) (λv H2=>v=.non/\Q (.ref x) H2) E) E
   else wEs G es U H (λvs H1=>∀ x dx,H1 x=none->H1 dx=none->dx≠x->G.Ψ f (.ref x::(vs++dflt G f (es.len+1))) (upd (upd H1 dx (.own x)) x (.ins (G.R.cad c) dx [])) (λv H2=>v=.non/\Q (.ref x) H2) E) E
 | .bini es,U,H,Q,E=>wEs G es U H (λvs H1=>∃ a i dx fs fr v,vs=[.ref a,v]/\H1 a=some (.exc (G.R.cad i) dx fs fr)/\G.T.xc.contains i=true/\Q .non H1) E
 | .cini c es,U,H,Q,E=>False
 | .bf b es,U,H,Q,E=>wEs G es U H (λvs H1=>lJ G b vs H1 Q) E
 | .isi a c,U,H,Q,E=>wE G a U H (λx H1=>lq G c x H1 Q) E
 | .lc elt sel it,U,H,Q,E=>G.cm=true/\wI G it U H (λJ H1=>wa (λσ' H' Q'=>wE G elt σ' H' Q' (λ_ _=>False)) J (none::fD U sel) H1 Q) E
 | .lci elt c sel it,U,H,Q,E=>G.cm=true/\wI G it U H (λJ H1=>Fz (λσ' H' Q'=>wT G c σ' H' Q' (λ_ _=>False)) (λσ' H' Q'=>wE G elt σ' H' Q' (λ_ _=>False)) J (none::fD U sel) H1 Q) E
 | .lct elt n sel it,U,H,Q,E=>G.cm=true/\wI G it U H (λJ H1=>LCt G.R.K n (λσ' H' Q'=>wE G elt σ' H' Q' (λ_ _=>False)) J (sw n none++fD U sel) H1 Q) E
 | .lcu elt c n sel it,U,H,Q,E=>False
 | .dnew,_,H,Q,_=>False
 | .up a,U,H,Q,E=>False
 | .isiT a cs,U,H,Q,E=>wE G a U H (λx H1=>∀ p,H1 p=none->rl G cs x (upd H1 p (.tup (cs.map λc=>.ref (G.R.cad c)))) Q) E
 | .mk0 c,_,H,Q,_=>AI (G.R.cad c) H Q
 | .disp ks es,U,H,Q,E=>∀ p,H p=none->wEs G es U (upd H p (.dK [])) (λxs H2=>mf ks p xs H2 Q) E
 | .dget a k d,U,H,Q,E=>wE G a U H (λx H1=>∃ p kvs0,x=.ref p/\H1 p=some (.dK kvs0)/\wE G k U H1 (λy H2=>wE G d U H2 (λw H3=>C0 p y w H3 Q) E) E) E
 | .lix a b,U,H,Q,E=>False
 | .vals tp a,U,H,Q,E=>G.cm=true/\wE G a U H (λx H1=>pv tp x H1 Q) E
 | .dzip a b,U,H,Q,E=>G.cm=true/\wE G a U H (λx H1=>wE G b U H1 (λy H2=>JF G.R.K x y H2 Q) E) E
noncomputable def wT (G:Gx):Tx->St->Hp->(Bool->Hp->Prop)->XK->Prop
 | .not a,U,H,Q,E=>wT G a U H (λc H1=>Q (!c) H1) E
 | .and a b,U,H,Q,E=>wT G a U H (λc H1=>jj c (wT G b U H1 Q E) (Q false H1)) E
 | .or a b,U,H,Q,E=>wT G a U H (λc H1=>jj c (Q true H1) (wT G b U H1 Q E)) E
 | .cmp op a b,U,H,Q,E=>wE G a U H (λx H1=>wE G b U H1 (λy H2=>qT G.R.K op x y H2 λz H3=>match z with| .bl k=>Q k H3|_=>False) E) E
 | .cmp2 o1 o2 a b c,U,H,Q,E=>wE G a U H (λx H1=>wE G b U H1 (λy H2=>qT G.R.K o1 x y H2 λz H3=>match z with| .bl k=>jj k (wE G c U H3 (λw H4=>qT G.R.K o2 y w H4 λz H5=>match z with| .bl k=>Q k H5|_=>False) E) (Q false H3)|_=>False) E) E
 | .val e,U,H,Q,E=>wE G e U H (λx H1=>GY G.R.K x H1 Q) E
noncomputable def wEs (G:Gx):fY->St->Hp->(List V->Hp->Prop)->XK->Prop
 | .nil,_,H,Q,_=>Q [] H
 | .cons e es,U,H,Q,E=>wE G e U H (λx H1=>wEs G es U H1 (λxs H2=>Q (x::xs) H2) E) E
noncomputable def wO (G:Gx):KD->St->Hp->(Option Int->Hp->Prop)->XK->Prop
 | .no,_,H,Q,_=>Q none H
 | .yes e,U,H,Q,E=>wE G e U H (λx H1=>match x with| .int i=>Q (some i) H1|_=>False) E
noncomputable def wI (G:Gx):EM->St->Hp->(It->Hp->Prop)->XK->Prop
 | .rng1 a,U,H,R,E=>wE G a U H (λx H1=>match x with| .int j=>-(2 ^ 62)<=j/\j<2 ^ 62/\R (Gq 0 j.toNat) H1|_=>False) E
 | .rng2 a b,U,H,R,E=>False
 | .rng3 a b c,U,H,R,E=>wE G a U H (λx H1=>wE G b U H1 (λy H2=>wE G c U H2 (λw H3=>match x,y with| .int i,.int j=>w=.int (-1)/\(-(2 ^ 62)<=i/\i<2 ^ 62/\ -(2 ^ 62)<=j/\j<2 ^ 62)/\R (Jp i (i-j).toNat) H3|_,_=>False) E) E) E
 | .enm a,U,H,R,E=>wE G a U H (λx H1=>match x with| .ref l=>Cu l H1 R|_=>False) E
 | .enf a,U,H,R,E=>wE G a U H (λx H1=>match x with| .ref l=>CD G.R.K l H1 R|_=>False) E
 | .seq a,U,H,R,E=>wE G a U H (λx H1=>match x with| .ref p=>tH G.R.K p H1 R|_=>False) E
 | .zip a b,U,H,R,E=>wE G a U H (λx H1=>wE G b U H1 (λy H2=>C5 G.R.K x y H2 R) E) E
 | .zip3 a b c,U,H,R,E=>wE G a U H (λx H1=>wE G b U H1 (λy H2=>wE G c U H2 (λv H3=>um G.R.K x y v H3 R) E) E) E
end
abbrev Lr (D:Ends)(f:St->Hp->Prop):Ends:={ D with nx:=f }
abbrev ze (D:Ends)(N:St->Hp->Prop):Ends:={ D with nx:=N,ct:=N,bk:=D.nx }
abbrev MD (D:Ends)(i:Nat):Ends:={ nx:=λσ' H'=>D.nx (σ'.set i none) H',rt:=D.rt,bk:=λσ' H'=>D.bk (σ'.set i none) H',ct:=λσ' H'=>D.ct (σ'.set i none) H' }
abbrev wG (U:St)(t:KI)(K:W.Frag)(x:V)(H:Hp)(Q:St->Prop):Prop:=match t with
 | .nm i=>Q (U.set i (some x))
 | .tp is=>∃ a xs,x=.ref a/\(aS K H a xs\/bc K H a xs)/\xs.length=is.length/\Q (wU U is xs)
 | .nt i is=>∃ a y b ys,x=.ref a/\aS K H a [y,.ref b]/\aS K H b ys/\ys.length=is.length/\Q (wU (U.set i (some y)) is ys)
@[irreducible] noncomputable def fz (J:It) (D:Ends) (F:(St->Hp->Prop)->V->St->Hp->Prop) (U:St) (H1:Hp):Prop:=∃ W:Nat->Nat->St->Hp->Prop,(∃ m,W 0 m U H1)/\∀ i m U H,W i m U H->
 (J.stop i H/\D.nx U H)\/(J.go i H/\∃ N:St->Hp->Prop,(∀ σ' H',N σ' H'->∃ m',m'<m/\W (i+1) m' σ' H')/\∀ x H',J.yld i H x H'->F N x U H')
mutual
noncomputable def wS:Sx->Gx->Ends->(St->XK)->St->Hp->Prop
 | .asg i e,G,D,E,U,H=>wE G e U H (λx H1=>D.nx (U.set i (some x)) H1) (E U)
 | .asgT is e,G,D,E,U,H=>G.cm=true/\wE G e U H (λx H1=>wG U (.tp is) G.R.K x H1 λσ1=>D.nx σ1 H1) (E U)
 | .par is es,G,D,E,U,H=>G.cm=true/\wEs G es U H (λxs H1=>xs.length=is.length/\D.nx (wU U is xs) H1) (E U)
 | .sub o i v,G,D,E,U,H=>wE G v U H (λy H1=>wE G o U H1 (λov H2=>wE G i U H2 (λiv H3=>gH ov iv y H3 (λH4=>D.nx U H4)) (E U)) (E U)) (E U)
 | .fld o f v,G,D,E,U,H=>wE G v U H (λy H1=>wE G o U H1 (λx H2=>Ct G f x y H2 (λH3=>D.nx U H3)) (E U)) (E U)
 | .aug i op e,G,D,E,U,H=>False
 | .augS o i op e,G,D,E,U,H=>wE G o U H (λov H1=>wE G i U H1 (λiv H2=>AV G.R.K ov iv H2 (λx H3=>wE G e U H3 (λy H4=>LI op x y H4 (λz H5=>gH ov iv z H5 (λH6=>D.nx U H6))) (E U))) (E U)) (E U)
 | .ret e,G,D,E,U,H=>wE G e U H D.rt (E U)
 | .retN,_,D,_,_,H=>False
 | .pass,_,D,_,U,H=>False
 | .brk,_,D,_,U,H=>False
 | .cont,_,D,_,U,H=>False
 | .expr e,G,D,E,U,H=>wE G e U H (λ_ H1=>D.nx U H1) (E U)
 | .ife c a b,G,D,E,U,H=>wT G c U H (λk H1=>jj k (wB a G D E U H1) (wB b G D E U H1)) (E U)
 | .whl c b,G,D,E,U,H=>∃ W:Nat->St->Hp->Prop,(∃ m,W m U H)/\∀ m U H,W m U H->wT G c U H (λk H1=>jj k (∃ N:St->Hp->Prop,(∀ σ' H',N σ' H'->∃ m',m'<m/\W m' σ' H')/\wB b G (ze D N) E U H1) (D.nx U H1)) (E U)
 | .for t it b,G,D,E,U,H=>G.cm=true/\wI G it U H (λJ H1=>fz J D (λN x U H'=>wG U t G.R.K x H' λσ2=>wB b G (ze D N) E σ2 H') U H1) (E U)
 | .rais e,G,_,E,U,H=>G.cm=true/\wE G e U H (λv H1=>∃ a i dx fs,v=.ref a/\H1 a=some (.exc (G.R.cad i) dx fs true)/\G.T.xc.contains i=true/\E U a (upd H1 a (.exc (G.R.cad i) dx fs false))) (E U)
 | .tryx b hs,G,D,_,U,H=>G.cm=true/\wB b G D (λσ' e H'=>wH hs G D σ' e H') U H
noncomputable def wB:mM->Gx->Ends->(St->XK)->St->Hp->Prop
 | .nil,_,D,_,U,H=>D.nx U H
 | .cons s r,G,D,E,U,H=>wS s G (Lr D λσ1 H1=>wB r G D E σ1 H1) E U H
noncomputable def wH:A4->Gx->Ends->St->Addr->Hp->Prop
 | .nil,_,_,_,_,_=>False
 | .cons c i b hs,G,D,U,e,H=>∃ j dx fs k,H e=some (.exc (G.R.cad j) dx fs false)/\G.T.xc.contains j=true/\G.T.sub.lookup (j,c)=some k/\
   jj k (wB b { G with cm:=false } (MD D i) (λ_ _ _=>False) (U.set i (some (.ref e))) H)
    (wH hs G D U e H)
end
end L3
namespace L3
open PySem PySem.Spec L2 PyProof.Rows
structure Sn where
 T:Tab
 sc:Scope
 N:List Str
abbrev Sn.kr (S:Sn)(x:Str):Bool:=decide (S.sc.names.lookup x=some .globalImplicit)&& !(x ==("__debug__":Str))
abbrev Sn.JN (S:Sn)(x:Str):Bool:=(decide (S.sc.names.lookup x=some .local)||decide (S.sc.names.lookup x=some .cell)||decide (S.sc.names.lookup x=some .free))&& !(x ==("__debug__":Str))&& !(x ==("__classdict__":Str))
abbrev Sn.loc (S:Sn)(i:Nat)(x:Str):Bool:=decide (S.N[i]? =some x)&&(decide (S.sc.names.lookup x=some .local)||decide (S.sc.names.lookup x=some .cell))
abbrev tO:Expr->Bool
 | .ListComp .. | .SetComp .. | .DictComp ..=>false
 |_=>true
abbrev cP:Expr->Bool
 | .Set ..=>false
 |_=>true
abbrev fv:Expr->Bool
 | .Slice ..=>false
 |_=>true
abbrev dM:Expr->Bool
 | .Call (.Name _ _) [] [] _=>false
 |_=>true
abbrev plainT:Expr->Bool
 | .UnaryOp .Not _ _| .BoolOp .. | .IfExp .. | .Compare ..=>false
 |_=>true
abbrev yN:Bf->String
 | .len=>"len"| .list=>"list"| .tuple=>"tuple"| .int=>"int"| .str=>"str"| .min=>"min"| .max=>"max"| .abs=>"abs"| .all=>"all"| .any=>"any"| .dict=>"dict"| .sum=>"sum"
abbrev yU:Lm->String
 | .append=>"append"| .extend=>"extend"| .insert=>"insert"| .pop=>"pop"| .clear=>"clear"| .reverse=>"reverse"| .count=>"count"
abbrev jF:List String:=["int","bool","str","list","tuple","dict","ValueError"]
abbrev Df (S:Sn):Cl->Expr->Bool
 | .own c,.Name x _=>S.kr x&&decide (S.T.gcl.lookup x=some c)
 | .ty n,.Name x _=>S.kr x&&decide (x=(n:Str))&&S.T.gbl.contains x&&jF.contains n
 |_,_=>false
abbrev uT (S:Sn):List Nat->List Expr->Bool
 | [],[]=>true
 |c::cs,.Name x _::es=>S.kr x&&decide (S.T.gcl.lookup x=some c)&&uT S cs es
 |_,_=>false
abbrev cR (outer inner:Scope):Scope:=
 { inner with names:=inner.names.map λ(n,k)=>if (k ==.free&&outer.kind ==.function&&outer.names.lookup n ==some .cell) then (n,.cell) else (n,k) }
abbrev eY (S:Sn)(scope:Scope)(xs:List Str)(sel:List Nat):Bool:=
 decide (scope.kind=.function)&&decide (S.sc.kind=.function)&&scope.names.all (λy=>y.2 != .cell&&(y.2 != .local||decide (scope.names.lookup y.1=some .local))&&(y.2 != .free||(decide (S.sc.names.lookup y.1=some .cell))))&&xs.all (λx=>decide (scope.names.lookup x=some .local))&&
 sel.all (λi=>match S.N[i]? with|some y=>decide (S.sc.names.lookup y=some .cell)&&decide ((cR S.sc scope).names.lookup y=some .cell)|none=>false)&&decide ((xs++sel.filterMap λi=>S.N[i]?).Nodup)
abbrev Dm:List Expr->List Str
 | .Name x _::r=>x::Dm r
 |_=>[]
abbrev xy (S:Sn):List Nat->List Expr->Bool
 | [],[]=>true
 |i::is,.Name x _::r=>decide (S.N[i]? =some x)&&decide (S.sc.names.lookup x=some .local)&&xy S is r
 |_,_=>false
abbrev nQ:List Str->List (Option Expr)->Bool
 | [],[]=>true
 |k::ks,some (.Constant (.str x) _ _)::r=>decide (k=x)&&nQ ks r
 |_,_=>false
mutual
noncomputable def mE (S:Sn):Ex->Expr->Bool
 | .v i,e=>match e with| .Name x _=>decide (S.N[i]? =some x)&&S.JN x|_=>false
 | .int i,e=>match e with| .Constant y1 _ _=>(match y1 with| .int j=>decide (i=j)|_=>false)|_=>false
 | .bl i,e=>match e with| .Constant y1 _ _=>(match y1 with| .bool j=>decide (i=j)|_=>false)|_=>false
 | .non,e=>match e with| .Constant y1 _ _=>(match y1 with| .none=>true|_=>false)|_=>false
 | .str i,e=>match e with| .Constant y1 _ _=>(match y1 with| .str j=>decide (i=j)|_=>false)|_=>false
 | .gl x,e=>match e with| .Name y _=>decide (x=y)&&S.kr y|_=>false
 | .bin op a b,e=>match e with| .BinOp a' op' b' _=>decide (op=op')&&mE S a a'&&mE S b b'|_=>false
 | .neg a,e=>match e with| .UnaryOp y1 a' _=>(match y1 with| .USub=>mE S a a'|_=>false)|_=>false
 | .not a,e=>match e with| .UnaryOp y1 a' _=>(match y1 with| .Not=>mE S a a'|_=>false)|_=>false
 | .and a b,e=>match e with| .BoolOp y1 y2 p=>(match y1 with| .And=>(match y2 with|a'::b'::r=>mE S a a'&&mE S b (match r with| []=>b'|_=>.BoolOp .And (b'::r) p)|_=>false)|_=>false)|_=>false
 | .or a b,e=>match e with| .BoolOp y1 y2 p=>(match y1 with| .Or=>(match y2 with|a'::b'::r=>mE S a a'&&mE S b (match r with| []=>b'|_=>.BoolOp .Or (b'::r) p)|_=>false)|_=>false)|_=>false
 | .cmp op a b,e=>match e with| .Compare a' y1 y2 _=>(match y1 with| [op']=>(match y2 with| [b']=>decide (op=op')&&mE S a a'&&mE S b b'&&cP b'|_=>false)|_=>false)|_=>false
 | .cmp2 o1 o2 a b c,e=>match e with| .Compare a' y1 y2 _=>(match y1 with| [p1,p2]=>(match y2 with| [b',c']=>decide (o1=p1)&&decide (o2=p2)&&mE S a a'&&mE S b b'&&mE S c c'&&cP c'|_=>false)|_=>false)|_=>false
 | .cmp3 o1 o2 o3 a b c d,_=>false
 | .ife c a b,e=>match e with| .IfExp c' a' b' _=>mT S c c'&&mE S a a'&&mE S b b'|_=>false
 | .tup es,e=>match e with| .Tuple es' _ _=>iT S es es'|_=>false
 | .lst es,e=>match e with| .List es' _=>iT S es es'|_=>false
 | .ix a i,e=>match e with| .Subscript a' i' _=>mE S a a'&&mE S i i'&&fv i'|_=>false
 | .sl a lo hi,e=>match e with| .Subscript a' y1 _=>(match y1 with| .Slice lo' hi' y2 _=>(match y2 with|none=>mE S a a'&&mO S lo lo'&&mO S hi hi'|_=>false)|_=>false)|_=>false
 | .fld a f,e=>match e with| .Attribute a' f' _=>mE S a a'&&decide (f=f')&&dM a'|_=>false
 | .call f es,e=>match e with| .Call y1 es' y2 _=>(match y1 with| .Name x _=>(match y2 with| []=>S.kr x&&decide (S.T.gfn.lookup x=some f)&&iT S es es'|_=>false)|_=>false)|_=>false
 | .meth a m es,e=>match e with| .Call y1 es' y2 q=>(match y1 with| .Attribute a' m' p=>(match y2 with| []=>mE S a a'&&decide (m=m')&&iT S es es'&&dM a'&&(p.endLine ==q.line)&&decide (es.len<20)|_=>false)|_=>false)|_=>false
 | .dget a k d,e=>match e with| .Call y1 es' y2 q=>(match y1 with| .Attribute a' m' p=>(match y2 with| []=>(match es' with| [k',d']=>mE S a a'&&decide (m'=("get":Str))&&mE S k k'&&notStar k'&&mE S d d'&&notStar d'&&dM a'&&(p.endLine ==q.line)|_=>false)|_=>false)|_=>false)|_=>false
 | .lix a b,_=>false
 | .lm m a es,e=>match e with| .Call y1 es' y2 q=>(match y1 with| .Attribute a' m' p=>(match y2 with| []=>mE S a a'&&decide (m'=(yU m:Str))&&iT S es es'&&dM a'&&(p.endLine ==q.line)&&decide (es.len<20)|_=>false)|_=>false)|_=>false
 | .make c es,e=>match e with| .Call y1 es' y2 _=>(match y1 with| .Name x _=>(match y2 with| []=>S.kr x&&decide (S.T.gcl.lookup x=some c)&&iT S es es'|_=>false)|_=>false)|_=>false
 | .bini es,e=>match e with| .Call y1 es' y2 q=>(match y1 with| .Attribute y3 m p=>(match y3 with| .Name x _=>(match y2 with| []=>S.kr x&&decide (m=("__init__":Str))&&S.T.gbi.contains x&&iT S es es'&&decide (es.len=2)&&(p.endLine ==q.line)|_=>false)|_=>false)|_=>false)|_=>false
 | .cini c es,_=>false
 | .bf b es,e=>match e with| .Call y1 es' y2 _=>(match y1 with| .Name x _=>(match y2 with| []=>S.kr x&&decide (x=(yN b:Str))&&S.T.gbl.contains x&&iT S es es'&&decide (0<es.len)|_=>false)|_=>false)|_=>false
 | .isi a c,e=>match e with| .Call y1 y2 y3 _=>(match y1 with| .Name x _=>(match y3 with| []=>(match y2 with| [a',c']=>S.kr x&&decide (x=("isinstance":Str))&&S.T.gbl.contains x&&mE S a a'&&Df S c c'|_=>false)|_=>false)|_=>false)|_=>false
 | .lc elt sel it,e=>match e with| .ListComp elt' y1 scope _=>(match y1 with| [y2]=>(match y2 with|⟨y3,iter,y4,y5⟩=>(match y3 with| .Name x px=>(match y4 with| []=>(match y5 with|0=>eY S scope [x] sel&&mI S it (.Name x px) iter&&mE { S with sc:=cR S.sc scope,N:=x::sel.filterMap λi=>S.N[i]? } elt elt'&&cP iter|_=>false)|_=>false)|_=>false))|_=>false)|_=>false
 | .lci elt c sel it,e=>match e with| .ListComp elt' y1 scope _=>(match y1 with| [y2]=>(match y2 with|⟨y3,iter,y4,y5⟩=>(match y3 with| .Name x px=>(match y4 with| [c']=>(match y5 with|0=>eY S scope [x] sel&&mI S it (.Name x px) iter&&mE { S with sc:=cR S.sc scope,N:=x::sel.filterMap λi=>S.N[i]? } elt elt'&&mT { S with sc:=cR S.sc scope,N:=x::sel.filterMap λi=>S.N[i]? } c c'&&cP iter|_=>false)|_=>false)|_=>false))|_=>false)|_=>false
 | .lct elt n sel it,e=>match e with| .ListComp elt' y1 scope _=>(match y1 with| [y2]=>(match y2 with|⟨y3,iter,y4,y5⟩=>(match y3 with| .Tuple ts kt pt=>(match y4 with| []=>(match y5 with|0=>eY S scope (Dm ts) sel&&xy { S with sc:=cR S.sc scope,N:=Dm ts++sel.filterMap λi=>S.N[i]? } (List.range n) ts&&decide ((Dm ts).length=n)&&mI S it (.Tuple ts kt pt) iter&&mE { S with sc:=cR S.sc scope,N:=Dm ts++sel.filterMap λi=>S.N[i]? } elt elt'&&cP iter|_=>false)|_=>false)|_=>false))|_=>false)|_=>false
 | .lcu elt c n sel it,_=>false
 | .dnew,_=>false
 | .up a,_=>false
 | .isiT a cs,e=>match e with| .Call y1 y2 y3 _=>(match y1 with| .Name x _=>(match y3 with| []=>(match y2 with| [a',y4]=>(match y4 with| .Tuple es' _ _=>S.kr x&&decide (x=("isinstance":Str))&&S.T.gbl.contains x&&mE S a a'&&uT S cs es'&&decide (cs.length<=100)|_=>false)|_=>false)|_=>false)|_=>false)|_=>false
 | .mk0 c,e=>match e with| .Call y1 y2 y3 _=>(match y1 with| .Name x _=>(match y2 with| []=>(match y3 with| []=>S.kr x&&decide (S.T.gcl.lookup x=some c)&&S.T.inip.contains c|_=>false)|_=>false)|_=>false)|_=>false
 | .disp ks es,e=>match e with| .Dict keys vals _=>nQ ks keys&&iT S es vals&&decide (es.len=ks.length)&&decide (0<ks.length)&&decide (ks.length<=15)|_=>false
 | .vals tp a,e=>match e with| .Call y1 y2 y3 _=>(match y1 with| .Name x _=>(match y3 with| []=>(match y2 with| [y4]=>(match y4 with| .Call y5 y6 y7 q=>(match y5 with| .Attribute a' m p=>(match y6 with| []=>(match y7 with| []=>S.kr x&&decide (x=DK tp)&&S.T.gbl.contains x&&mE S a a'&&decide (m=("values":Str))&&dM a'&&(p.endLine ==q.line)|_=>false)|_=>false)|_=>false)|_=>false)|_=>false)|_=>false)|_=>false)|_=>false
 | .dzip a b,e=>match e with| .Call y1 y2 y3 _=>(match y1 with| .Name x _=>(match y3 with| []=>(match y2 with| [y4]=>(match y4 with| .Call y5 y6 y7 _=>(match y5 with| .Name y _=>(match y7 with| []=>(match y6 with| [a',b']=>S.kr x&&decide (x=("dict":Str))&&S.T.gbl.contains x&&S.kr y&&decide (y=("zip":Str))&&S.T.gbl.contains y&&mE S a a'&&mE S b b'&&notStar a'&&notStar b'|_=>false)|_=>false)|_=>false)|_=>false)|_=>false)|_=>false)|_=>false)|_=>false
noncomputable def mT (S:Sn):Tx->Expr->Bool
 | .not a,e=>match e with| .UnaryOp y1 a' _=>(match y1 with| .Not=>mT S a a'|_=>false)|_=>false
 | .and a b,e=>match e with| .BoolOp y1 y2 p=>(match y1 with| .And=>(match y2 with|a'::b'::r=>mT S a a'&&mT S b (match r with| []=>b'|_=>.BoolOp .And (b'::r) p)|_=>false)|_=>false)|_=>false
 | .or a b,e=>match e with| .BoolOp y1 y2 p=>(match y1 with| .Or=>(match y2 with|a'::b'::r=>mT S a a'&&mT S b (match r with| []=>b'|_=>.BoolOp .Or (b'::r) p)|_=>false)|_=>false)|_=>false
 | .cmp op a b,e=>match e with| .Compare a' y1 y2 _=>(match y1 with| [op']=>(match y2 with| [b']=>decide (op=op')&&mE S a a'&&mE S b b'&&cP b'|_=>false)|_=>false)|_=>false
 | .cmp2 o1 o2 a b c,e=>match e with| .Compare a' y1 y2 _=>(match y1 with| [p1,p2]=>(match y2 with| [b',c']=>decide (o1=p1)&&decide (o2=p2)&&mE S a a'&&mE S b b'&&mE S c c'&&cP c'|_=>false)|_=>false)|_=>false
 | .val e,e'=>mE S e e'&&plainT e'
noncomputable def iT (S:Sn):fY->List Expr->Bool
 | .nil,es=>es.isEmpty
 | .cons e es,l=>match l with|e'::es'=>mE S e e'&&notStar e'&&iT S es es'| []=>false
noncomputable def mO (S:Sn):KD->Option Expr->Bool
 | .no,o=>o.isNone
 | .yes e,o=>match o with|some e'=>mE S e e'|none=>false
noncomputable def mI (S:Sn):EM->Expr->Expr->Bool
 | .rng1 a,_,e=>match e with| .Call y1 y2 y3 _=>(match y1 with| .Name x _=>(match y3 with| []=>(match y2 with| [a']=>S.kr x&&decide (x=("range":Str))&&S.T.gbl.contains x&&mE S a a'&&notStar a'|_=>false)|_=>false)|_=>false)|_=>false
 | .rng2 a b,_,e=>false
 | .rng3 a b c,_,e=>match e with| .Call y1 y2 y3 _=>(match y1 with| .Name x _=>(match y3 with| []=>(match y2 with| [a',b',c']=>S.kr x&&decide (x=("range":Str))&&S.T.gbl.contains x&&mE S a a'&&mE S b b'&&mE S c c'&&notStar a'&&notStar b'&&notStar c'|_=>false)|_=>false)|_=>false)|_=>false
 | .enm a,t,e=>match e with| .Call y1 y2 y3 _=>(match y1 with| .Name x _=>(match y3 with| []=>(match y2 with| [a']=>S.kr x&&decide (x=("enumerate":Str))&&S.T.gbl.contains x&&mE S a a'&&notStar a'&&(match t with| .Tuple ..=>true|_=>false)|_=>false)|_=>false)|_=>false)|_=>false
 | .enf a,t,e=>match e with| .Call y1 y2 y3 _=>(match y1 with| .Name x _=>(match y3 with| []=>(match y2 with| [a']=>S.kr x&&decide (x=("enumerate":Str))&&S.T.gbl.contains x&&mE S a a'&&notStar a'&&(match t with| .Tuple ..=>true|_=>false)|_=>false)|_=>false)|_=>false)|_=>false
 | .seq a,_,e=>mE S a e
 | .zip a b,t,e=>match e with| .Call y1 y2 y3 _=>(match y1 with| .Name x _=>(match y3 with| []=>(match y2 with| [a',b']=>S.kr x&&decide (x=("zip":Str))&&S.T.gbl.contains x&&mE S a a'&&mE S b b'&&notStar a'&&notStar b'&&(match t with| .Tuple ..=>true|_=>false)|_=>false)|_=>false)|_=>false)|_=>false
 | .zip3 a b c,t,e=>match e with| .Call y1 y2 y3 _=>(match y1 with| .Name x _=>(match y3 with| []=>(match y2 with| [a',b',c']=>S.kr x&&decide (x=("zip":Str))&&S.T.gbl.contains x&&mE S a a'&&mE S b b'&&mE S c c'&&notStar a'&&notStar b'&&notStar c'&&(match t with| .Tuple ..=>true|_=>false)|_=>false)|_=>false)|_=>false)|_=>false
end
end L3
namespace L3
open PySem PySem.Spec L2
variable {e:Expr}
def plainT_ok (h:plainT e=true)(env:Env)(whole:Sem Value):isTrue e env whole=(do let v <-whole;standAt e.pos;holding [v] (truthy v)):=by
 cases e<;>first|rfl|(cases h)|skip
 case UnaryOp op a p=>cases op<;>first|rfl|cases h
def bz (h:cP e=true)(env:Env)(x:Value):foldedSetIterable e env x=pure x:=by
 cases e<;>first|rfl|cases h
def ef (h:cP e=true)(op:CmpOp):behindInMarks op e=false:=by
 cases e<;>first|rfl|cases h
def gS (h:tO e=true)(t:Option Expr)(n:Nat)(env:Env):swapsWith e t n env=pure false:=by
 cases e<;>first|rfl|cases h
variable {o:Expr}
def bB (h:dM o=true)(a:Str)(env:Env)(whole:Sem Value):attributeBase o a env whole=whole:=by
 cases o with
 |Call f as ks p=>
  cases f<;>first|rfl|skip
  case Name x q=>
   cases as with
   |nil=>cases ks with
    |nil=>cases h
    |cons k ks=>rfl
   |cons b bs=>rfl
 |_=>rfl
variable {b:Expr}
def sD (h:fv b=true):u7 b:=by
 intro o i;cases b<;>first|rfl|cases h
variable {X:Cx}
def PE.bL {t:TE}(h:PE X e t):PE X e (λU H R=>∃ Q,t U H Q/\∀ x H1,Q x H1->R x H1):=λY s U H R I ⟨Q,q,i⟩=>
 ax (h Y s U H Q I q) λ_ _ ⟨v,H',J,r,z⟩=>⟨v,H',J,r,i _ _ z⟩
variable {t:TT}
def PT.bL (h:PT X e t):PT X e (λU H R=>∃ Q,t U H Q/\∀ x H1,Q x H1->R x H1):=λY s U H R I ⟨Q,q,i⟩=>
 ax (h Y s U H Q I q) λ_ _ ⟨H',J,z⟩=>⟨H',J,i _ _ z⟩
def PA.bL {e:List Expr}{t:TA}(h:PA X e t):PA X e (λU H R=>∃ Q,t U H Q/\∀ x H1,Q x H1->R x H1):=λpos Y s U H R I ⟨Q,q,i⟩=>
 ax (h pos Y s U H Q I q) λ_ _ ⟨v,H',J,r,z⟩=>⟨v,H',J,r,i _ _ z⟩
def PE.imp {t t':TE}(h:PE X e t)(hi:∀ U H Q,t' U H Q->t U H Q):PE X e t':=λY s U H Q I q=>h Y s U H Q I (hi _ _ _ q)
def PT.imp {t':TT}(h:PT X e t)(hi:∀ U H Q,t' U H Q->t U H Q):PT X e t':=λY s U H Q I q=>h Y s U H Q I (hi _ _ _ q)
def PS.imp {e:Stmt}{t t':TS}(h:PS X e t)(hi:∀ D U H,t' D U H->t D U H):PS X e t':=λY s U H D I q=>h Y s U H D I (hi _ _ _ q)
structure zy (P:Program) (w:World) (K:W.Frag) (mg:M8) (base:Heap) (k:Nat) (f:Addr) (d:ao) (sp:Sp):Prop where
 fact:∃ fd,c9 P w K mg base (yy P w) k f fd d.ps sp/\∀ j,∃ ds,Binds K fd d.ps ds/\Vals (d.dfl.drop j) ds
 own:∀ fd oc od osl,K.lookup f=some ⟨oc,od,.func fd,osl⟩->c9 P w K mg base (yy P w) k f fd d.ps sp
structure BX (K:W.Frag) (mg:M8) (T:Tab) (R:Rt):Prop where
 gfn:∀ x f,T.gfn.lookup x=some f->mg x=some (.ref (R.fad f))/\W.keepIn K (.ref (R.fad f))=true/\∃ d,T.fns[f]? =some d
 gcl:∀ x c,T.gcl.lookup x=some c->mg x=some (.ref (R.cad c))
 gbl:∀ x,T.gbl.contains x=true->mg x=none/\x≠"__name__"
 gbi:∀ x,T.gbi.contains x=true->∃ B,mg x=some (.ref B)/\Ml K B
 gl:∀ x v,R.gl x=some v->∃ u,mg x=some u/\RelV v u
 na:∀ i f,T.na.contains (i,f)=true->et K (R.cad i) f
 me:∀ i m f,T.me.lookup (i,m)=some f->Cs K (R.cad i)/\Meth K (R.cad i) m (R.fad f)/\∃ d,T.fns[f]? =some d
 ini0:∀ c,T.ini0.contains c=true->FR K (R.cad c)
 inip:∀ c,T.inip.contains c=true->Mh K (R.cad c)
 ini:∀ c f,T.ini.lookup c=some f->(∃ d,T.fns[f]? =some d)/\if T.xc.contains c=true then KH K (R.cad c) (R.fad f) else Mk K (R.cad c) (R.fad f)
 oc:∀ c,T.oc.contains c=true->Cs K (R.cad c)/\K4 K (R.cad c)
 xc:∀ c,T.xc.contains c=true->cN K (R.cad c)/\Av K (R.cad c)
 sub:∀ i j b,T.sub.lookup (i,j)=some b->W.kitOne K (.ref (R.cad i)) (.ref (R.cad j))=some b/\(T.xc.contains i=true->W.mroIn K (R.cad i) (.ref (R.cad j))=some b/\cN K (R.cad j))
 subT:∀ i n b,T.subT.lookup (i,n)=some b->W.kitOne K (.ref (R.cad i)) (.type n)=some b
 subB:∀ t n b,T.subB.lookup (t,n)=some b->W.kitOne K (.type t) (.type n)=some b
 subO:∀ t j b,T.subO.lookup (t,j)=some b->W.kitOne K (.type t) (.ref (R.cad j))=some b
 cin:∀ c f,T.cin.lookup c=some f->MY K (R.cad c) (R.fad f)/\∃ d,T.fns[f]? =some d
structure Gd (X:Cx) (G:Gx) (S:Sn) (k:Nat) (E:St->XK):Prop where
 hK:G.R.K=X.K
 hT:S.T=G.T
 sc:X.env.scope=S.sc
 N:X.N=S.N
 nd:S.N.Nodup
 pass:Passes (yy X.prog X.w) X E
 cm:G.cm=true->X.calm=true
 room:G.cm=true->bP (k+1) X.A
 un:X.A.units+200<cLine
 tab:BX X.K X.mg G.T G.R
 fns:∀ f d,G.T.fns[f]? =some d->zy X.prog X.w X.K X.mg X.base k (G.R.fad f) d (G.Ψ f)
variable {x:Str}{l es:List Expr}
section
variable {X:Cx}{G:Gx}{S:Sn}{k:Nat}{E:St->XK}
def Gd.bin (g:Gd X G S k E)(op:Operator):dr X (binaryOp op) (Fs G.R.K op):=g.hK▸Gz op
def Gd.cmp (g:Gd X G S k E)(op:CmpOp):dr X (compareOp op) (qT G.R.K op):=g.hK▸FH g.un op
def Gd.glob (g:Gd X G S k E)(h:S.kr x=true):Gl X x/\(x ==("__debug__":Str))=false:=by
 unfold Sn.kr at h;simp only[mo,decide_eq_true_eq,Bool.not_eq_true'] at h;refine ⟨?_,h.2⟩;show X.env.scope.names.lookup x=_;rw[g.sc];exact h.1
def Gd.JN (g:Gd X G S k E)(h:S.JN x=true):KC X.env.scope x/\(x ==("__debug__":Str))=false/\(x ==("__classdict__":Str))=false:=by
 unfold Sn.JN at h;simp only[mo,Bool.or_eq_true,decide_eq_true_eq,Bool.not_eq_true'] at h;refine ⟨?_,h.1.2,h.2⟩;unfold KC;rw[g.sc];rcases h.1.1 with (h|h)|h
 ·exact .inl h
 ·exact .inr (.inl h)
 ·exact .inr (.inr h)
def Gd.loc (g:Gd X G S k E){i:Nat}(h:S.loc i x=true):X.N[i]? =some x/\L2.Loc X.env.scope x:=by
 unfold Sn.loc at h;simp only[mo,Bool.or_eq_true,decide_eq_true_eq] at h;rw[g.N];refine ⟨h.1,?_⟩;unfold L2.Loc;rw[g.sc];exact h.2
def aW:∀ {es:fY}{l:List Expr},iT S es l=true->∀ (env:Env) (pos:Pos),(backTo pos (bm l env)).any (·.1)=false
 | .nil,[],_,_,_=>rfl
 | .nil,_::_,h,_,_=>by cases (show false=true from h)
 | .cons e es,[],h,_,_=>by cases (show false=true from h)
 | .cons e es,e'::l,h,env,pos=>by
  have h:(mE S e e'&&notStar e'&&iT S es l)=true:=h;simp only[mo] at h;rw[ae h.1.2];show ((backTo pos (bm l env)).any (·.1))=false;exact aW h.2 env pos
def nF:∀ {es:fY}{l:List Expr},iT S es l=true->l.length=es.len
 | .nil,[],_=>rfl
 | .nil,_::_,h=>by cases (show false=true from h)
 | .cons e es,[],h=>by cases (show false=true from h)
 | .cons e es,e'::l,h=>by
  have h:(mE S e e'&&notStar e'&&iT S es l)=true:=h;simp only[mo] at h;show l.length+1=es.len+1;rw[nF h.2]
def bF {es:fY}(h:iT S es (e::l)=true):notStar e=true/\∃ x es',es=.cons x es'/\iT S es' l=true:=by
 cases es with
 |nil=>cases (show false=true from h)
 |cons x es'=>
  have h:(mE S x e&&notStar e&&iT S es' l)=true:=h;simp only[mo] at h;exact ⟨h.1.2,x,es',rfl,h.2⟩
def ue:∀ {es:fY}{l:List Expr},iT S es l=true->es.len<20->∀ (env:Env) (cpos:Pos),methodCallForm (l.length+([]:List Keyword).length) (backTo cpos (bm l env)) (backToKw cpos (keywordEach [] env))=true:=by
 intro es l h hl env cpos;have h1:=aW h env cpos;have h2:=nF h;have h3:(backTo cpos (bm l env)).all (λx=>!x.1)=true:=by
  rw[all_eq_true];intro x hx;rw[any_eq_false] at h1;simpa using h1 x hx
 unfold methodCallForm;rw[h3,h2];simp[keywordEach,backToKw]
 omega
def lR {m:Str}{apos pos:Pos}{env:Env}(hb:dM o=true)(hf:methodCallForm (es.length+([]:List Keyword).length) (backTo pos (bm es env)) (backToKw pos (keywordEach [] env))=true)(hl:(apos.endLine ==pos.line)=true):
  eval (.Call (.Attribute o m apos) es [] pos) env=(do
   let ov <-eval o env
   standAt apos.atName
   let (f,first) <-holding [ov] (getMethod ov m (do return (<-importBound o env).getD true))
   callWith pos f first (backTo pos (bm es env)) (backToKw pos (keywordEach [] env))):=by
 show (do
  let ov <-attributeBase o m env (eval o env)
  standAt apos.atName
  methodCall o m apos pos env ov (es.length+([]:List Keyword).length) (backTo pos (bm es env)) (backToKw pos (keywordEach [] env)))=_
 rw[bB hb];unfold methodCall calleeOf methodCallPos;rw[hf,hl]
 rfl
def yS {es:fY}(h:iT S es (e::l)=true)(hl:es.len<20)(env:Env)(cpos:Pos):
  ((backTo cpos (bm (e::l) env)).all (λx=>!x.1)&&(backToKw cpos (keywordEach [] env)).all (λx=>x.1.isSome)
   &&decide ((e::l).length+([]:List Keyword).length+(if ([]:List Keyword).isEmpty then 0 else 1)<30))=true:=by
 have h1:=aW h env cpos;have h2:=nF h;have h3:(backTo cpos (bm (e::l) env)).all (λx=>!x.1)=true:=by
  rw[all_eq_true];intro x hx;rw[any_eq_false] at h1;simpa using h1 x hx
 rw[h3,h2];simp[keywordEach,backToKw]
 omega
def CO {b c:Ex}{b' c':Expr}(h:mE S b b'=true)(n:notStar b'=true)(h2:mE S c c'=true)(n2:notStar c'=true)(env:Env)(cpos:Pos):
  ((backTo cpos (bm [b',c'] env)).all (λx=>!x.1)&&(backToKw cpos (keywordEach [] env)).all (λx=>x.1.isSome)
   &&decide (([b',c']:List Expr).length+([]:List Keyword).length+(if ([]:List Keyword).isEmpty then 0 else 1)<30))=true:=
 yS (es:=.cons b (.cons c .nil)) (by show (mE S b b'&&notStar b'&&(mE S c c'&&notStar c'&&true))=true;rw[h,n,h2,n2];rfl) (ol rfl) env cpos
end
variable {K:W.Frag}{H:Hp}{Y:M7}{a:Addr}
section
variable {X:Cx}{G:Gx}{S:Sn}{k:Nat}{E:St->XK}
def iu {x:V}{t:String}(h:tyName x H=some t):ij K H x (.type t):=by
 unfold tyName at h
 split at h
 ·cases h;exact .non
 ·cases h;exact .bl _
 ·cases h;exact .int _
 ·cases h;exact .str _
 ·split at h
  ·rename_i e;cases h;exact .lst e
  ·rename_i e;cases h;exact .tup e
  ·rename_i e;cases h;exact .dK e
  ·cases h
 ·cases h
def uW {s:Shared}{U:St}{Q:VK}{i:Nat}{b:Bool}{cv:Value}(g:Gd X G S k E)(I:Inv X Y U H s)(o:uh G H a i)
  (e:W.kitOne X.K (.ref (G.R.cad i)) cv=some b) (q:Q (.bl b) H):wpAny (model X.prog X.w) X.A (call (.builtin "isinstance") [.ref a,cv]) (EP X Y U Q) X.xe s:=by
 rcases o with ⟨ho,dx,fs,ha⟩|⟨ho,dx,fs,fr,ha⟩
 ·obtain ⟨c,z⟩:=g.tab.oc i ho;exact iH I (x:=.ref a) rfl (.ins ha c z.ha z.hn z.htk z.hm) e λtk=>⟨.bl b,H,I.tok _,rfl,q⟩
 ·obtain ⟨c,z⟩:=g.tab.xc i ho;exact zM I ha c z e λtk=>⟨.bl b,H,I.tok _,rfl,q⟩
def Ca (g:Gd X G S k E)(j:Nat):cx X (.builtin "isinstance") (λvs H Q=>∃ x,vs=[x,.ref (G.R.cad j)]/\lq G (.own j) x H Q):=by
 intro Y s U H xs us Q I r h;obtain ⟨x,rfl,h⟩:=h;obtain ⟨u,w',rfl,rx,rT⟩:=vals2 r;obtain rfl:w'=Value.ref (G.R.cad j):=rT;unfold lq at h;rcases h with ⟨t,b,ht,hb,q⟩|⟨a,i,b,rfl,ho,hb,q⟩
 ·exact iH I rx (iu ht) (g.tab.subO t j b hb) λtk=>⟨.bl b,H,I.tok _,rfl,q⟩
 ·obtain rfl:u=Value.ref a:=rx;exact uW g I ho (g.tab.sub i j b hb).1 q
def Fl (g:Gd X G S k E)(n:String):cx X (.builtin "isinstance") (λvs H Q=>∃ x,vs=[x,.ty n]/\lq G (.ty n) x H Q):=by
 intro Y s U H xs us Q I r h;obtain ⟨x,rfl,h⟩:=h;obtain ⟨u,w',rfl,rx,rT⟩:=vals2 r;obtain rfl:w'=Value.type n:=rT;unfold lq at h;rcases h with ⟨t,b,ht,hb,q⟩|⟨a,i,b,rfl,ho,hb,q⟩
 ·exact iH I rx (iu ht) (g.tab.subB t n b hb) λtk=>⟨.bl b,H,I.tok _,rfl,q⟩
 ·obtain rfl:u=Value.ref a:=rx;exact uW g I ho (g.tab.subT i n b hb) q
def Be {n:String}(h:jF.contains n=true):bootBuiltins (n:Str)=some (.type n):=by
 have h':n ∈ jF:=by simpa using h
 simp only[jF,lw,not_mem_nil,or_false] at h';rcases h' with rfl|rfl|rfl|rfl|rfl|rfl|rfl<;>decide+kernel
abbrev Mr (G:Gx):Cl->V
 | .own c=>.ref (G.R.cad c)
 | .ty n=>.ty n
def IS (g:Gd X G S k E){c:Cl}(h:Df S c e=true):PE X e (tC (Mr G c)):=by
 unfold Df at h
 split at h
 ·simp only[mo,decide_eq_true_eq] at h;obtain ⟨hg,hd⟩:=g.glob h.1;exact ot hg (g.tab.gcl _ _ (g.hT▸h.2)) rfl hd
 ·simp only[mo,decide_eq_true_eq] at h;obtain ⟨⟨⟨h1,rfl⟩,h3⟩,h4⟩:=h;obtain ⟨hg,hd⟩:=g.glob h1;obtain ⟨hm,hn⟩:=g.tab.gbl _ (g.hT▸h3);exact Bv hg hm (Be h4) rfl hn hd
 ·cases h
def Gg (g:Gd X G S k E)(c:Cl):cx X (.builtin "isinstance") (λvs H Q=>∃ x,vs=[x,Mr G c]/\lq G c x H Q):=by
 cases c with
 |own j=>exact Ca g j
 |ty n=>exact Fl g n
def zO (g:Gd X G S k E){i:Nat}{b:Bool}:∀ {cs:List Nat},anyS G i cs=some b->W.kitAny X.K (.ref (G.R.cad i)) ((cs.map λc=>G.R.cad c).map Value.ref)=some b
 | [],h=>h
 |c::cs,h=>by
  have e:∀ b',G.T.sub.lookup (i,c)=some b'->W.kitOne X.K (.ref (G.R.cad i)) (.ref (G.R.cad c))=some b':=λb' hb=>(g.tab.sub i c b' hb).1
  unfold anyS at h;show (match W.kitOne X.K (.ref (G.R.cad i)) (.ref (G.R.cad c)) with|some true=>some true|some false=>W.kitAny X.K (.ref (G.R.cad i)) ((cs.map λc=>G.R.cad c).map Value.ref)|none=>none)=some b
  split at h
  ·rename_i q;rw[e _ q];exact h
  ·rename_i q;rw[e _ q];exact zO g h
  ·cases h
def ER (g:Gd X G S k E){t:String}{b:Bool}:∀ {cs:List Nat},B7 G t cs=some b->W.kitAny X.K (.type t) ((cs.map λc=>G.R.cad c).map Value.ref)=some b
 | [],h=>h
 |c::cs,h=>by
  have e:∀ b',G.T.subO.lookup (t,c)=some b'->W.kitOne X.K (.type t) (.ref (G.R.cad c))=some b':=λb' hb=>g.tab.subO t c b' hb
  unfold B7 at h;show (match W.kitOne X.K (.type t) (.ref (G.R.cad c)) with|some true=>some true|some false=>W.kitAny X.K (.type t) ((cs.map λc=>G.R.cad c).map Value.ref)|none=>none)=some b
  split at h
  ·rename_i q;rw[e _ q];exact h
  ·rename_i q;rw[e _ q];exact ER g h
  ·cases h
def Cb (g:Gd X G S k E)(cs:List Nat):cx X (.builtin "isinstance") (λvs H Q=>∃ x p,vs=[x,.ref p]/\H p=some (.tup ((cs.map λc=>G.R.cad c).map V.ref))/\rl G cs x H Q):=by
 intro Y s U H xs us Q I r h;obtain ⟨x,p,rfl,hp,h⟩:=h;obtain ⟨u,w',rfl,rx,rT⟩:=vals2 r;obtain rfl:w'=Value.ref p:=rT;unfold rl at h;rcases h with ⟨t,b,ht,hb,q⟩|⟨a,i,b,rfl,ho,hb,q⟩
 ·obtain ⟨P,Z,hP,hx⟩:=qW I rx (iu (K:=X.K) ht);exact mX I Z hP hx hp (ER g hb) λtk=>⟨.bl b,H,I.tok _,rfl,q⟩
 ·obtain rfl:u=Value.ref a:=rx;rcases ho with ⟨ho,dx,fs,ha⟩|⟨ho,dx,fs,fr,ha⟩
  ·obtain ⟨c,z⟩:=g.tab.oc i ho;obtain ⟨P,Z,hP,hx⟩:=qW I (x:=.ref a) rfl (.ins ha c z.ha z.hn z.htk z.hm);exact mX I Z hP hx hp (zO g hb) λtk=>⟨.bl b,H,I.tok _,rfl,q⟩
  ·obtain ⟨c,z⟩:=g.tab.xc i ho;obtain ⟨ox,odo,J⟩:=pN I ha;exact mX I (pU (ox:=ox) (odo:=odo) c z) J (λz=>nomatch z) hp (zO g hb) λtk=>⟨.bl b,H,I.tok _,rfl,q⟩
def zf (g:Gd X G S k E):∀ {cs:List Nat}{es:List Expr},uT S cs es=true->PA X es (λU H Q=>Q (cs.map λc=>.ref (G.R.cad c)) H)
 | [],[],_=>cn
 | [],_::_,h=>by cases (show false=true from h)
 |_::_,[],h=>by cases (show false=true from h)
 |c::cs,e::es,h=>by
  unfold uT at h
  split at h
  ·rename_i h1 h2;cases h1
  ·rename_i c' cs' x p es' h1 h2;cases h1;cases h2;simp only[mo,decide_eq_true_eq] at h;obtain ⟨hg,hd⟩:=g.glob h.1.1;exact cU (ot (v:=.ref (G.R.cad _)) hg (g.tab.gcl _ _ (g.hT▸h.1.2)) rfl hd) (zf g h.2) rfl
  ·cases h
abbrev xU:Bf->Value
 | .len=>.builtin "len"| .list=>.type "list"| .tuple=>.type "tuple"| .int=>.type "int"| .str=>.type "str"| .min=>.builtin "min"| .max=>.builtin "max"| .abs=>.builtin "abs"| .all=>.builtin "all"| .any=>.builtin "any"| .dict=>.type "dict"| .sum=>.builtin "sum"
def Bl (b:Bf):bootBuiltins (yN b:Str)=some (xU b):=by cases b<;>decide+kernel
def uG:∀ {bs:List Bool}{us:List Value},Vals (bs.map V.bl) us->PyProof.Rows.LSm.BoolsAre us bs
 | [],_,h=>by cases h;exact .nil
 |b::bs,_,h=>by
  cases h with
  |cons r1 r2=>
   obtain rfl:_=Value.bool b:=r1;exact .cons b (uG r2)
def wL (hc:X.calm=true):cx X (.builtin "all") (λxs H Q=>∃ p,∃ bs:List Bool,xs=[.ref p]/\bc X.K H p (bs.map V.bl)/\Q (.bl (bs.all id)) H):=by
 intro Y s U H xs us Q I r h;obtain ⟨p,bs,rfl,hq,q⟩:=h;obtain ⟨u,rfl,rx⟩:=vals1 r;cases rx;obtain ⟨its,r',pl,hz⟩:=I.list hq;have hb:=uG r';have hl:=pl.isList;have lt:p<s.heap.objs.size:=by obtain ⟨_,e,_⟩:=hl;exact u8 e
 refine call_all_walk (wpAny_pyIter_list hl ⟨s.heap.objs.size,[s.heap.objs.size,p],[s.heap.objs.size],its.toArray.size,_,_,λi=>(bs[i]?).getD true,rfl,
  Walks.list (A:=X.A.in1) (I.ok.hd hc) _ p (pc lt) its.toArray,⟨⟨_,ul _ rfl,rfl,rfl⟩,hl.push _⟩,λi v s' Q' E' hP hQ=>?_,λh' tk hk=>?_⟩)
 ·obtain ⟨b,e,rfl⟩:=hb.get i v (by simpa using hP);have hQ:Q' ((bs[i]?).getD _) s':=hQ;rw[e] at hQ;exact bi hQ
 ·have e:((List.range its.toArray.size).all λi=>(bs[i]?).getD true)=bs.all id:=by
   rw[ii,hb.length,PyProof.Rows.LSm.range_all]
  rw[e];exact ⟨.bl _,H,I.kept (PyProof.Rows.LSm.kept_iter hk),rfl,q⟩
def om:cx X (.type "dict") (λvs H Q=>∃ p kvs,vs=[.ref p]/\H p=some (.dK kvs)/\∀ l,H l=none->Q (.ref l) (upd H l (.dK kvs))):=by
 intro Y s U H xs us Q I r h;obtain ⟨p,kvs,rfl,hp,q⟩:=h;obtain ⟨u,rfl,rx⟩:=vals1 r;cases rx;exact xO I (.inl hp) λl s' hl J=>⟨.ref l,_,J,rfl,q l hl⟩
def Jf (g:Gd X G S k E)(b:Bf):cx X (xU b) (lJ G b):=by
 intro Y s U H xs us Q I r h;unfold lJ at h;rw[g.hK] at h;cases b with
 |len=>exact y9 Y s U H _ us Q I r h
 |list=>exact nr Y s U H _ us Q I r h
 |tuple=>exact lp Y s U H _ us Q I r h
 |int=>exact wM Y s U H _ us Q I r h
 |str=>
  rcases h with h|⟨z,rfl,q⟩
  ·exact oj Y s U H _ us Q I r h
  ·obtain ⟨u,rfl,t,rfl⟩:=vals1 r;exact PySem.P.str_of_str ⟨.str z,H,I,⟨_,rfl⟩,q⟩
 |min=>
  rcases h with ⟨hc,h|h⟩
  ·exact xp (g.cm hc) Y s U H _ us Q I r h
  ·exact h.elim
 |max=>exact w6 (g.cm h.1) Y s U H _ us Q I r h.2
 |abs=>exact h.elim
 |all=>exact wL (g.cm h.1) Y s U H _ us Q I r h.2
 |any=>exact h.elim
 |dict=>exact om Y s U H _ us Q I r h
 |sum=>exact h.elim
abbrev Hh:Lm->String
 | .append=>"list.append"| .extend=>"list.extend"| .insert=>"list.insert"| .pop=>"list.pop"| .clear=>"list.clear"| .reverse=>"list.reverse"| .count=>"list.count"
def vc (m:Lm):Slot "list" (yU m:Str) (Hh m):=by
 cases m
 ·exact PySem.F.slot_list_append
 ·exact PySem.F.slot_list_extend
 ·exact PySem.F.slot_list_insert
 ·exact PySem.F.slot_list_pop
 ·exact PySem.F.slot_list_clear
 ·exact PySem.F.slot_list_reverse
 ·exact PySem.F.slot_list_count
def DS (m:Lm):typeOf (.builtin (Hh m))=pure (.type "method_descriptor"):=by cases m<;>rfl
abbrev MR (m:Lm):V->List V->Hp->VK->Prop:=λx vs H Q=>∃ p xs,x=.ref p/\H p=some (.lst xs)/\Fi m p xs vs H Q
def EK (m:Lm):Kq X (Hh m) (MR m):=by
 intro Y s U H x vs v us Q I rx rv h;obtain ⟨p,xs,rfl,hp,h⟩:=h;unfold Fi at h;cases m with
 |append=>
  obtain ⟨y,rfl,h⟩:=h;exact iy Y s U H _ _ v us Q I rx rv ⟨p,xs,_,rfl,rfl,hp,Nat.lt_of_le_of_lt h.1 (by decide),h.2⟩
 |extend=>
  obtain ⟨b,zs,rfl,hz,hl,q⟩:=h;exact w8 Y s U H _ _ v us Q I rx rv ⟨p,_,xs,zs,rfl,rfl,hp,hz,kP nofun,q⟩
 |insert=>
  obtain ⟨i,y,rfl,h⟩:=h;exact wk Y s U H _ _ v us Q I rx rv ⟨p,xs,_,_,rfl,rfl,hp,h.1,h.2.1,Nat.lt_of_le_of_lt h.2.2.1 (by decide),h.2.2.2⟩
 |pop=>exact h.elim
 |clear=>exact h.elim
 |reverse=>exact h.elim
 |count=>exact h.elim
def AF {m:Str}{apos pos:Pos}{ta:TE}{t:TA}{pl:Sem Bool}{n:Nat}(g:Gd X G S k E)(hc:G.cm=true)(he:PE X o ta)(ha:PA X es t)
  (hnil:es=[]->∀ U H R,t U H R->R [] H) (hst:∀ e r,es=e::r->bm es X.env=(false,eval e X.env)::bm r X.env) (hpl:∀ e r,es=e::r->(backTo pos (bm r X.env)).any (·.1)=false)
  (ht:eval (.Call (.Attribute o m apos) es [] pos) X.env=(do
   let ov <-eval o X.env
   standAt apos.atName
   let (f,first) <-holding [ov] (getMethod ov m pl)
   callWith pos f first (backTo pos (bm es X.env)) (backToKw pos (keywordEach [] X.env)))):
  PE X (.Call (.Attribute o m apos) es [] pos) (λU H Q=>ta U H λx H1=>∃ p i dx fs f,x=.ref p/\H1 p=some (.ins (G.R.cad i) dx fs)/\fs.lookup m=none/\G.T.me.lookup (i,m)=some f/\
   t U H1 λvs H2=>G.Ψ f (x::(vs++dflt G f n)) H2 Q (E U)):=by
 intro Y s U H Q I h;refine W.methodCall_KW (pl:=pl) (ax (he Y s U H _ I h) λu s1 ⟨x,H1,I1,rx,a,i,dx,fs,f,ex,ea,l,hf,q⟩=>?_) ht;subst ex;obtain rfl:u=Value.ref a:=rx;obtain ⟨c,hm,d,hd⟩:=g.tab.me i m f hf;obtain ⟨fd,F,B⟩:=(g.fns f d hd).fact;have hr:bP k X.A:=(g.room hc).mono (Nat.le_succ _);obtain ⟨ds,hb,hv⟩:∃ ds,Binds X.K fd d.ps ds/\Vals (dflt G f n) ds:=by
  unfold dflt;rw[hd];exact B _
 refine sP I1 ea c hm l ?_;cases es with
 |nil=>
  refine W.callWith_K0 (first:=[.ref a]) I1.bO hm.kp ?_;exact nZ (us:=[.ref a]) (vs:=[.ref a]) F hr hb hv g.pass I1 (.cons rfl .nil) (hnil rfl _ _ _ q)
 |cons e r=>
  refine W.callWith_K (first:=[.ref a]) (h₀:=X.base) I.ok.mod.kin hm.kp (ax (ha pos Y s1 U H1 _ I1 q) λus s2 ⟨vs,H2,I2,r,q2⟩=>⟨I2.bO,?_⟩) (hst e r rfl) (hpl e r rfl);exact nZ (us:=.ref a::us) (vs:=.ref a::vs) F hr hb hv g.pass I2 (.cons rfl r) q2
end
def DR {α β:Type}{f:α->Option β}:∀ {l:List α}{j:Nat}{y:β},(∀ a ∈ l,(f a).isSome=true)->(l.filterMap f)[j]? =some y->∃ a,l[j]? =some a/\f a=some y
 | [],_,_,_,h=>by simp at h
 |a::l,j,y,hs,h=>by
  obtain ⟨b,hb⟩:=Option.isSome_iff_exists.mp (hs a lv);rw[filterMap_cons,hb] at h;cases j with
  |zero=>simp at h;exact ⟨a,rfl,by rw[hb,h]⟩
  |succ j=>
   simp at h;obtain ⟨a',h1,h2⟩:=DR (λa ha=>hs a (dL _ ha)) h;exact ⟨a',by simpa using h1,h2⟩
def Ax {α β:Type}{f:α->Option β}:∀ {l:List α},(∀ a ∈ l,(f a).isSome=true)->(l.filterMap f).length=l.length
 | [],_=>rfl
 |a::l,hs=>by
  obtain ⟨b,hb⟩:=Option.isSome_iff_exists.mp (hs a lv);rw[filterMap_cons,hb];simp[Ax (λa ha=>hs a (dL _ ha))]
abbrev jV (env:Env):Str×NameKind->List (Str×Addr)->Sem (ForInStep (List (Str×Addr))):=λnk r=>do
 let cs:=r
 if (nk.2 ==NameKind.free)=true then do
  let a <-cellOf env nk.1
  pure (ForInStep.yield ((nk.1,a)::cs))
 else pure (ForInStep.yield cs)
def oA {env:Env}:∀ (names:List (Str×NameKind)) (cs:List (Str×Addr)),(∀ y ∈ names,y.2=.free->∃ c,env.cells.lookup y.1=some c)->
  ∃ cl,(forIn names cs (jV env):Sem _)=pure cl/\(∀ y c,cl.lookup y=some c->cs.lookup y=some c\/env.cells.lookup y=some c)/\(∀ y,(cs.lookup y).isSome=true->(cl.lookup y).isSome=true)/\∀ y ∈ names,y.2=.free->(cl.lookup y.1).isSome=true
 | [],cs,_=>⟨cs,rfl,λy c h=>.inl h,λy h=>h,λy hy=>absurd hy (by simp)⟩
 |(n,kd)::r,cs,h=>by
  by_cases hk:kd=.free
  ·subst hk;obtain ⟨c,hc⟩:=h (n,.free) lv rfl;obtain ⟨cl,h1,h2,h3,h4⟩:=oA r ((n,c)::cs) λy hy=>h y (dL _ hy)
   have self:(((n,c)::cs).lookup n).isSome=true:=by simp[lookup_cons]
   refine ⟨cl,?_,λy d q=>?_,λy q=>h3 y ?_,λy hy hf=>?_⟩
   ·rw[forIn_cons];have e:jV env (n,.free) cs=pure (ForInStep.yield ((n,c)::cs)):=by
     unfold jV;simp only[cellOf,hc]
     rfl
    rw[e];exact h1
   ·rcases h2 y d q with q|q
    ·rw[lookup_cons] at q
     by_cases e:y=n
     ·subst e;simp at q;subst q;exact .inr hc
     ·rw[show (y ==n)=false from beq_eq_false_iff_ne.mpr e] at q;exact .inl q
    ·exact .inr q
   ·rw[lookup_cons];cases (y ==n)<;>simp[q]
   ·rcases lw.mp hy with rfl|hy
    ·exact h3 _ self
    ·exact h4 y hy hf
  ·obtain ⟨cl,h1,h2,h3,h4⟩:=oA r cs λy hy=>h y (dL _ hy)
   refine ⟨cl,?_,h2,h3,λy hy hf=>?_⟩
   ·rw[forIn_cons];have e:jV env (n,kd) cs=pure (ForInStep.yield cs):=by
     unfold jV;cases kd<;>first|rfl|exact absurd rfl hk
    rw[e];exact h1
   ·rcases lw.mp hy with rfl|hy
    ·exact absurd hf hk
    ·exact h4 y hy hf
variable {scope:Scope}
def B9 {env:Env}(h:∀ y ∈ scope.names,y.2=.free->∃ c,env.cells.lookup y.1=some c):
  ∃ cl,closureFor scope env=pure cl/\(∀ y c,cl.lookup y=some c->env.cells.lookup y=some c)/\∀ y ∈ scope.names,y.2=.free->(cl.lookup y.1).isSome=true:=by
 obtain ⟨cl,h1,h2,_,h4⟩:=oA scope.names [] h;refine ⟨cl,?_,λy c q=>(h2 y c q).resolve_left (by simp),h4⟩;have e:closureFor scope env=(forIn scope.names [] (jV env) >>= λcs=>pure cs):=by
  unfold closureFor jV
  rfl
 rw[e,h1]
 rfl
variable {xs:List Str}{sel:List Nat}
section
variable {X:Cx}{G:Gx}{S:Sn}{k:Nat}{E:St->XK}
def qt (g:Gd X G S k E)(scope:Scope):relabel scope X.env=cR S.sc scope:=by
 unfold relabel cR Env.kindOf;rw[g.sc]
def bR (g:Gd X G S k E)(ok:X.Ok)(h:eY S scope xs sel=true):∃ cl,bC X scope cl xs (sel.filterMap λi=>S.N[i]?) sel:=by
 unfold eY at h;simp only[mo,decide_eq_true_eq,all_eq_true,Bool.or_eq_true,bne_iff_ne,ne_eq] at h;obtain ⟨⟨⟨⟨⟨h1,h2⟩,h3⟩,h4⟩,h5⟩,h6⟩:=h;have hs:∀ i ∈ sel,(S.N[i]?).isSome=true:=λi hi=>by
  have:=h5 i hi
  split at this
  ·rename_i e;rw[e];rfl
  ·cases this
 obtain ⟨cl,c1,c2,c3⟩:=B9 (env:=X.env) (scope:=scope) λy hy hf=>ok.has y.1 (.inl (by
  show X.env.scope.names.lookup y.1=_;rw[g.sc];exact ((h3 y hy).2).resolve_left λz=>z hf))
 refine ⟨cl,⟨c1,c2,λy hy=>?_,h1,λy hy=>(h3 y hy).1.1,λy hy hl=>((h3 y hy).1.2).resolve_left λz=>z hl,h4,(Ax hs).symm,λj y hj=>?_,h6⟩⟩
 ·have:∃ kd,(y,kd) ∈ scope.names/\kd=.free:=by
   rcases hy with hy|hy
   ·obtain ⟨kd,m,q⟩:=dz hy;rcases q with q|q
    ·subst q;exact absurd rfl (h3 _ m).1.1
    ·exact ⟨kd,m,q.1⟩
   ·obtain ⟨kd,m,q⟩:=dz hy;rcases q with q|q
    ·exact ⟨kd,m,q.symm⟩
    ·exact nomatch q.2
  obtain ⟨kd,m,rfl⟩:=this;exact Option.isSome_iff_exists.mp (c3 _ m rfl)
 ·obtain ⟨i,hi,hn⟩:=DR hs hj;have q:=h5 i (db hi);rw[hn] at q;simp only[mo,decide_eq_true_eq] at q;refine ⟨i,hi,by rw[g.N];exact hn,by rw[g.sc];exact q.1,by rw[qt g];exact q.2⟩
def Gd.comp (g:Gd X G S k E){cl:List (Str×Addr)}(C:bC X scope cl xs (sel.filterMap λi=>S.N[i]?) sel) (s:Shared) (H:Hp) (fp:List Addr):
  Gd (fQ X scope cl (xs++sel.filterMap λi=>S.N[i]?) s H fp) G { S with sc:=cR S.sc scope,N:=xs++sel.filterMap λi=>S.N[i]? } k (λ_ _ _=>False) where
 hK:=g.hK
 hT:=g.hT
 sc:=qt g scope
 N:=rfl
 nd:=C.nd
 pass:=λY U H s e s' I h=>by
  obtain ⟨e,H',C,dx,fs,T,_,_,_,_,_,_,_,_,_,q⟩:=h;exact q.elim
 cm:=g.cm
 room:=g.room
 un:=g.un
 tab:=g.tab
 fns:=g.fns
def qX (env:Env):∀ {is:List Nat}{ts:List Expr},xy S is ts=true->(assignEach ts env).length=is.length/\(assignEach ts env).findIdx? (·.1)=none
 | [],[],_=>⟨rfl,rfl⟩
 | [],_::_,h=>by simp[xy] at h
 |_::_,[],h=>by simp[xy] at h
 |i::is,t::ts,h=>by
  cases t<;>simp[xy] at h
  rename_i x p;obtain ⟨h1,h2⟩:=qX env h.2;have e:assignEach (.Name x p::ts) env=(false,assign (.Name x p) env)::assignEach ts env:=rfl;rw[e];refine ⟨by simp[h1],?_⟩;rw[List.findIdx?_cons];simp[h2]
def vb (g:Gd X G S k E):∀ {is:List Nat}{ts:List Expr},xy S is ts=true->E7 X ts (gl is)
 | [],[],_=>λY s U H vs us Q I r h=>nv Y s U H vs us Q I r ⟨length_eq_zero_iff.mp h.1,by
   have:=h.2;have e:vs=[]:=length_eq_zero_iff.mp h.1;subst e;exact this⟩
 | [],_::_,h=>by simp[xy] at h
 |_::_,[],h=>by simp[xy] at h
 |i::is,t::ts,h=>by
  cases t<;>simp[xy] at h
  rename_i x p;have hl:X.env.scope.names.lookup x=some .local:=by rw[g.sc];exact h.1.2
  have h1:PG X (.Name x p) (gX i):=gx (by rw[g.N];exact g.nd) (by rw[g.N];exact h.1.1) (.inl hl) (.inr hl);have h2:=vb g h.2;intro Y s U H vs us Q I r q;refine gG h1 h2 rfl Y s U H vs us Q I r ?_;obtain ⟨hl,q⟩:=q;cases vs with
  |nil=>simp at hl
  |cons v vs=>exact ⟨v,vs,rfl,by simpa using hl,q⟩
def uk (g:Gd X G S k E)(hc:G.cm=true){n kt:Nat}{ts:List Expr}{pt:Pos}(h:xy S (List.range n) ts=true):PG X (.Tuple ts kt pt) (CK G.R.K n (gl (List.range n))):=by
 obtain ⟨e1,e2⟩:=qX X.env h;rw[length_range] at e1;rw[g.hK];exact oO (g.cm hc) (vb g h) e1 e2
def vw {n:Nat}(h:xs.length=n):rF xs=sw n none:=by
 subst h;unfold rF;rw[List.map_const']
end
set_option maxHeartbeats 2000000
variable {r:List Expr}{p:Pos}{s1:Shared}{R:It->Hp->Prop}{keys:List (Option Expr)}
section
variable {G:Gx}{k:Nat}
def kb {o1 o2:CmpOp}{c:Expr}(h:cP c=true):lastMarks [o1,o2] [b,c]=false:=by
 show behindInMarks o2 c=false;exact ef h _
def xJ {t:TE}(h:PE X (match r with| []=>b|_=>.BoolOp .And (b::r) p) t):PE X (.BoolOp .And (b::r) p) t:=by
 cases r with
 |nil=>exact zW h
 |cons c r=>exact h
def yj {t:TE}(h:PE X (match r with| []=>b|_=>.BoolOp .Or (b::r) p) t):PE X (.BoolOp .Or (b::r) p) t:=by
 cases r with
 |nil=>exact zW h
 |cons c r=>exact h
def Eu {op:BoolOp}(h:PT X (.BoolOp op l p) t):PW X (.BoolOp op l p) t:=λwhole Y s U H Q I q=>by
 have:=h Y s U H Q I q;exact this
def zY (h:PT X (match r with| []=>b|_=>.BoolOp .And (b::r) p) t):PW X (.BoolOp .And (b::r) p) t:=by
 cases r with
 |nil=>exact C9 h
 |cons c r=>exact Eu h
def yR (h:PT X (match r with| []=>b|_=>.BoolOp .Or (b::r) p) t):PW X (.BoolOp .Or (b::r) p) t:=by
 cases r with
 |nil=>exact Ff h
 |cons c r=>exact Eu h
def Dd:Kz X (unaryOp .USub) (λx H Q=>match x with| .int i=>Q (.int (-i)) H|_=>False):=by
 intro Y s U H x v Q I r h
 split at h
 ·exact (L2.F4 Y s U H _ v Q I r ⟨_,rfl,h⟩)
 ·exact h.elim
def wK {CX:uw}{C f:Addr}{fd:FuncData}{ps:List Str}{sp:Sp}{dvs:List V}{ds:List Value}{E:St->XK}{pos:Pos}(M:KH X.K C f)(F:c9 X.prog X.w X.K X.mg X.base CX k f fd ps sp)(hr:bP (k+1) X.A)(hg:Gl X x)(hm:X.mg x=some (.ref C))(hb:Binds X.K fd ps ds)(hd:Vals dvs ds)(hx:Passes CX X E)
  (hdb:(x ==("__debug__":Str))=false):PE X (.Call (.Name x p) [] [] pos) (zV C sp dvs E C7):=by
 intro Y s U H Q I h;refine bv (bE I hg hm ?_ hdb);exact W.callWith_K0 I.bO M.kp (md (us:=[]) M F hr hb hd hx (Nat.zero_le _) I .nil h.2)
def dr.bL {f:Value->Value->Sem Value}{r:R2}(h:dr X f r):dr X f (λx y H R=>∃ Q,r x y H Q/\∀ z H1,Q z H1->R z H1):=λY s U H x y v u R I rx ry ⟨Q,q,i⟩=>
 ax (h Y s U H x y v u Q I rx ry q) λ_ _ ⟨v,H',J,r,z⟩=>⟨v,H',J,r,i _ _ z⟩
section
open PyProof.Rows
def xk {tg:Expr}{U:L2.St}{H1:Hp}{v:Value}{xs:List V}(I1:Inv X Y U H1 s1)(r:RelV (.ref a) v)(hq:bc X.K H1 a xs)(q:R (BM X.K a) H1):
  wpAny (model X.prog X.w) X.A (pyIter v) (ID X Y U tg R) X.xe s1:=by
 cases r;obtain ⟨its,rv,p,hz⟩:=I1.list hq;refine wpAny_pyIter_list p.isList ?_;refine ⟨s1.heap.objs.size,[s1.heap.objs.size],_,_,H1,rfl,I1.kept (t':=s1.toks) λb o e=>tz _ e,vH a _,⟨_,ul _ rfl,rfl,rfl⟩,λb hb=>?_,q⟩;have e:b=s1.heap.objs.size:=by simpa using hb
 subst e;exact I1.qO (pi _) (I1.hok.fresh (pi _))
def yo {tg:Expr}{U:L2.St}{H1:Hp}{v:Value}{xs:List V}(I1:Inv X Y U H1 s1)(r:RelV (.ref a) v)(hq:aS X.K H1 a xs)(q:R (J4 X.K a) H1):
  wpAny (model X.prog X.w) X.A (pyIter v) (ID X Y U tg R) X.xe s1:=by
 cases r;obtain ⟨its,rv,p,hz⟩:=I1.tuple hq;refine wpAny_pyIter_tuple (show s1.heap.IsTuple a its.toArray from p) ?_;refine ⟨s1.heap.objs.size,[s1.heap.objs.size],_,_,H1,rfl,I1.kept (t':=s1.toks) λb o e=>tz _ e,tD a _,⟨_,ul _ rfl,rfl,rfl⟩,λb hb=>?_,q⟩;have e:b=s1.heap.objs.size:=by simpa using hb
 subst e;exact I1.qO (pi _) (I1.hok.fresh (pi _))
end
def Fx {x:V}{Q:Bool->Hp->Prop}(h:GY K x H Q):∃ k,Cc K x H k/\Q k H:=by
 unfold GY at h
 split at h
 ·exact ⟨_,rfl,h⟩
 ·exact h
abbrev Kx:List Str->List V->List (V×V)
 |k::ks,x::xs=>(.str k,x)::Kx ks xs
 |_,_=>[]
def zj:∀ {ks:List Str}{xs:List V},Kx ks xs=(Fm ks xs).map (λkv=>(kV kv.1,kv.2))
 | [],_=>rfl
 |_::_,[]=>rfl
 |k::ks,x::xs=>by
  show (V.str k,x)::Kx ks xs=(kV (.inr k),x)::(Fm ks xs).map _;rw[zj]
  rfl
def vk:∀ {ks:List Str}{xs:List V},(Fm ks xs).length<=ks.length
 | [],_=>pi _
 |_::_,[]=>Nat.zero_le _
 |k::ks,x::xs=>Nat.succ_le_succ vk
def iG {k:Str}{ks:List Str}(h:nQ (k::ks) keys=true):∃ j p r,keys=some (.Constant (.str k) j p)::r/\nQ ks r=true:=by
 unfold nQ at h
 split at h
 ·rename_i e;cases e
 ·rename_i k' ks' x j p r e
  injection e with e1 e2
  subst e1 e2;simp only[mo,decide_eq_true_eq] at h;obtain ⟨rfl,h⟩:=h;exact ⟨_,_,_,rfl,h⟩
 ·cases h
def kC (h:nQ [] keys=true):keys=[]:=by
 cases keys with
 |nil=>rfl
 |cons a r=>cases (show false=true from h)
def pW:∀ {ks:List Str}{keys:List (Option Expr)},nQ ks keys=true->keys.length=ks.length
 | [],keys,h=>by rw[kC h];rfl
 |k::ks,keys,h=>by
  obtain ⟨j,p,r,rfl,h2⟩:=iG h;rw[length_cons,length_cons,pW h2]
def qN:∀ {ks:List Str}{keys:List (Option Expr)},nQ ks keys=true->keys.all (·.isSome)=true
 | [],keys,h=>by rw[kC h];rfl
 |k::ks,keys,h=>by
  obtain ⟨j,p,r,rfl,h2⟩:=iG h;rw[all_cons,qN h2]
  rfl
def zc {S:Sn}:∀ {x:fY}{e:List Expr},iT S x e=true->e.length=x.len
 | .nil,[],_=>rfl
 | .nil,_::_,h=>by cases (show false=true from h)
 | .cons x xs,[],h=>by cases (show false=true from h)
 | .cons x xs,e::es,h=>by
  have h:(mE S x e&&notStar e&&iT S xs es)=true:=h;simp only[mo] at h;exact congrArg Nat.succ (zc h.2)
mutual
theorem sE:∀ (x:Ex){X:Cx}{S:Sn}{E:St->XK},Gd X G S k E->∀ {e:Expr},mE S x e=true->PE X e (λU H Q=>wE G x U H Q (E U))
 | .v i,X,S,E,g,e,h=>by
  sleep 1
  simp only[mo,decide_eq_true_eq] at h;obtain ⟨h1,h2⟩:=h;obtain ⟨v1,v2,v3⟩:=g.JN h2;refine PE.imp (Gy (i:=i) (by rw[g.N];exact h1) v1 v2 v3) λU H Q q=>?_
  conv at q=>whnf
  split at q
  ·rename_i e;exact ⟨_,e,q⟩
  ·exact q.elim
 | .int i,X,S,E,g,e,h=>by
  sleep 2
  simp only[decide_eq_true_eq] at h;subst h;exact Fg
 | .bl i,X,S,E,g,e,h=>by
  sleep 2
  simp only[decide_eq_true_eq] at h;subst h;exact Ij
 | .non,X,S,E,g,e,h=>by
  sleep 2
  exact Hy
 | .str i,X,S,E,g,e,h=>by
  sleep 2
  simp only[decide_eq_true_eq] at h;subst h;exact yE
 | .gl x,X,S,E,g,e,h=>by
  sleep 1
  simp only[mo,decide_eq_true_eq] at h;obtain ⟨rfl,h2⟩:=h;obtain ⟨hg,hd⟩:=g.glob h2;intro Y s U H Q I q
  conv at q=>whnf
  split at q
  ·rename_i v e;obtain ⟨u,hm,r⟩:=g.tab.gl _ v e;exact ot hg hm r hd Y s U H Q I q
  ·exact q.elim
 | .bin op a b,X,S,E,g,e,h=>by
  sleep 1
  simp only[mo,decide_eq_true_eq] at h;obtain ⟨⟨rfl,ha⟩,hb⟩:=h;exact JK (g.bin op) (sE a g ha) (sE b g hb)
 | .neg a,X,S,E,g,e,h=>by
  sleep 2
  exact Ih Dd (sE a g h)
 | .not a,X,S,E,g,e,h=>by
  sleep 2
  refine PE.imp (HG (PE.bL (sE a g h))) λU H Q q=>⟨_,q,λx H1 z=>?_⟩
  split at z
  ·exact ⟨_,rfl,z⟩
  ·exact z.elim
 | .and a b,X,S,E,g,e,h=>by
  sleep 3
  simp only[mo] at h;refine PE.imp (FL (PE.bL (sE a g h.1)) (xJ (sE b g h.2))) λU H Q q=>⟨_,q,λx H1 z=>?_⟩
  split at z
  ·rw[dG] at z;exact ⟨_,rfl,z⟩
  ·exact z.elim
 | .or a b,X,S,E,g,e,h=>by
  sleep 3
  simp only[mo] at h;refine PE.imp (Iz (PE.bL (sE a g h.1)) (yj (sE b g h.2))) λU H Q q=>⟨_,q,λx H1 z=>?_⟩
  split at z
  ·rw[dG] at z;exact ⟨_,rfl,z⟩
  ·exact z.elim
 | .cmp op a b,X,S,E,g,e,h=>by
  sleep 3
  simp only[mo,decide_eq_true_eq] at h;obtain ⟨⟨⟨rfl,ha⟩,hb⟩,hn⟩:=h;exact Bc (g.cmp op) (sE a g ha) (sE b g hb) (ef hn _)
 | .cmp2 o1 o2 a b c,X,S,E,g,e,h=>by
  sleep 3
  simp only[mo,decide_eq_true_eq] at h;obtain ⟨⟨⟨⟨⟨rfl,rfl⟩,ha⟩,hb⟩,hc⟩,hn⟩:=h;refine PE.imp (yP (dr.bL (g.cmp o1)) (g.cmp o2) (PE.bL (sE a g ha)) (PE.bL (sE b g hb)) (sE c g hc) (kb hn)) λU H Q q=>⟨_,q,λx H1 q1=>⟨_,q1,λy H2 q2=>⟨_,q2,λz H3 q3=>?_⟩⟩⟩
  split at q3
  ·rw[dG] at q3;exact ⟨_,rfl,q3⟩
  ·exact q3.elim
 | .cmp3 o1 o2 o3 a b c d,X,S,E,g,e,h=>by cases (show false=true from h)
 | .ife c a b,X,S,E,g,e,h=>by
  sleep 1
  simp only[mo] at h;exact PE.imp (yz (PT.bL (sT c g h.1.1)) (sE a g h.1.2) (sE b g h.2)) λU H Q q=>⟨_,q,λk H1 z=>by rwa [dG] at z⟩
 | .tup es,X,S,E,g,e,h=>by
  sleep 1
  refine PE.imp (Ad (PA.bL (uY es g h))) λU H Q q=>⟨_,q,λx H1 z=>by unfold iK at z;exact ⟨kP (by have:=z.1;omega),z.2⟩⟩
 | .lst es,X,S,E,g,e,h=>by
  sleep 1
  refine PE.imp (FK (PA.bL (uY es g h))) λU H Q q=>⟨_,q,λx H1 z=>by unfold BO at z;exact ⟨kP (by have:=z.1;omega),z.2⟩⟩
 | .ix a i,X,S,E,g,e,h=>by
  sleep 1
  simp only[mo] at h;have hr:Ib X (qj G.R.K):=g.hK▸sU g.un;exact HX hr (sE a g h.1.1) (sE i g h.1.2) (sD h.2)
 | .sl a lo hi,X,S,E,g,e,h=>by
  sleep 3
  simp only[mo] at h;have hr:KP X (Et G.R.K):=g.hK▸Fd;exact zU hr (sE a g h.1.1) (sO lo g h.1.2) (sO hi g h.2)
 | .fld a f,X,S,E,g,e,h=>by
  sleep 1
  simp only[mo,decide_eq_true_eq] at h;obtain ⟨⟨ha,rfl⟩,hn⟩:=h;intro Y s U H Q I q;have q':wE G a U H (λx H1=>rC G f x H1 Q) (E U):=q;refine Dx (bB hn _ _ _) (ax (sE a g ha Y s U H _ I q') λu s1 ⟨x,H1,I1,rx,qf⟩=>?_);unfold rC at qf;obtain ⟨a,i,fs,v,ex,ea,hna,l,q⟩:=qf;subst ex;obtain rfl:u=Value.ref a:=rx;have n:=g.tab.na i f hna;rcases ea with ⟨ho,dx,ea⟩|⟨ho,dx,fr,ea⟩
  ·exact rL I1 ea (g.tab.oc i ho).1 n l λu' s' J rv=>⟨v,H1,J,rv,q⟩
  ·exact vM I1 ea (g.tab.xc i ho).1 n l λu' s' J rv=>⟨v,H1,J,rv,q⟩
 | .call f es,X,S,E,g,e,h=>by
  sleep 3
  rename_i es' pos _ xn p1 _;simp only[mo,decide_eq_true_eq] at h;obtain ⟨⟨h1,h2⟩,h3⟩:=h;obtain ⟨hg,hdb⟩:=g.glob h1;obtain ⟨hm,hk,d,hd⟩:=g.tab.gfn _ _ (g.hT▸h2);obtain ⟨fd,F,B⟩:=(g.fns f d hd).fact;obtain ⟨ds,hb,hv⟩:∃ ds,Binds X.K fd d.ps ds/\Vals (dflt G f es.len) ds:=by
   unfold dflt;rw[hd];exact B _
  intro Y s U H Q I q;obtain ⟨hc,q⟩:=(show G.cm=true/\wEs G es U H (λvs H1=>G.Ψ f (vs++dflt G f es.len) H1 Q (E U)) (E U) from q);have hr:bP k X.A:=(g.room hc).mono (Nat.le_succ _);cases es' with
  |nil=>
   cases es with
   |nil=>exact yT F hr hg hm hk hb hv g.pass hdb Y s U H Q I q
   |cons _ _=>cases (show false=true from h3)
  |cons e0 er=>
   have PAs:=uY es g h3;obtain ⟨ns,x0,xr,rfl,h4⟩:=bF h3;exact Cq F hr hg hm hk hb hv g.pass PAs hdb (ae ns) (aW h4 _ _) Y s U H Q I q
 | .meth a m es,X,S,E,g,e,h=>by
  sleep 3
  rename_i es' pos _ a' m' apos _;simp only[mo,decide_eq_true_eq] at h;obtain ⟨⟨⟨⟨⟨ha,rfl⟩,h3⟩,h4⟩,h5⟩,h6⟩:=h;intro Y s U H Q I q;obtain ⟨hc,q⟩:=(show G.cm=true/\_ from q);refine AF (n:=es.len+1) g hc (sE a g ha) (uY es g h3) (λz U H R hr=>?_) (λe r z=>?_) (λe r z=>?_) (lR h4 (ue h3 h6 _ _) h5) Y s U H Q I q
  ·subst z;cases es with
   |nil=>exact hr
   |cons _ _=>cases (show false=true from h3)
  ·subst z;exact ae (bF h3).1
  ·subst z;have PAs:=uY es g h3;obtain ⟨ns,x0,xr,rfl,h4⟩:=bF h3;exact aW h4 _ _
 | .lm m a es,X,S,E,g,e,h=>by
  sleep 3
  rename_i es' pos _ a' m' apos _;simp only[mo,decide_eq_true_eq] at h;obtain ⟨⟨⟨⟨⟨ha,rfl⟩,h3⟩,h4⟩,h5⟩,h6⟩:=h;cases es' with
  |nil=>
   cases es with
   |nil=>exact PE.imp (GU PySem.F.plainAttrs_list (vc m) (DS m) (EK m) (PE.bL (sE a g ha)) (bB h4 _ _ _) h5) λU H Q q=>⟨_,q,λx H1 z=>by
     obtain ⟨p,xs0,ex,hp,q⟩:=z;subst ex;obtain ⟨xs,h1,h2⟩:=q;exact ⟨.inl ⟨rfl,xs0,bc.of hp⟩,p,xs,rfl,h1,h2⟩⟩
   |cons _ _=>cases (show false=true from h3)
  |cons e0 er=>
   have PAs:=uY es g h3;obtain ⟨ns,x0,xr,rfl,h7⟩:=bF h3;exact PE.imp (J3 PySem.F.plainAttrs_list (vc m) (DS m) (EK m) (PE.bL (sE a g ha)) (PA.bL PAs) (bB h4 _ _ _) (yS h3 h6 _ _) h5 (ae ns) (aW h7 _ _)) λU H Q q=>⟨_,q,λx H1 z=>by
     obtain ⟨p,xs0,ex,hp,q⟩:=z;subst ex;exact ⟨.inl ⟨rfl,xs0,bc.of hp⟩,_,q,λvs H2 ⟨xs,h1,h2⟩=>⟨p,xs,rfl,h1,h2⟩⟩⟩
 | .dget a k d,X,S,E,g,e,h=>by
  sleep 4
  simp only[mo,decide_eq_true_eq] at h;obtain ⟨⟨⟨⟨⟨⟨⟨ha,rfl⟩,h3⟩,n1⟩,h6⟩,n2⟩,h4⟩,h5⟩:=h;exact PE.imp (Hj (PE.bL (sE a g ha)) (cU (PE.bL (sE k g h3)) (cU (PE.bL (sE d g h6)) cn n2) n1) (bB h4 _ _ _) (CO h3 n1 h6 n2 _ _) h5 (ae n1) (by rw[ae n2];rfl)) λU H Q q=>⟨_,q,λx H1 z=>by
   obtain ⟨p,kvs0,ex,hp,q⟩:=z;exact ⟨p,kvs0,ex,hp,_,q,λy H2 z=>⟨_,z,λw H3 z=>by
    unfold C0 at z;obtain ⟨kvs,k,e1,e2,q⟩:=z;subst e2;exact ⟨kvs,k,w,rfl,e1,q⟩⟩⟩⟩
 | .lix a b,X,S,E,g,e,h=>by cases (show false=true from h)
 | .make c es,X,S,E,g,e,h=>by
  sleep 3
  rename_i es' pos _ xn p1 _;simp only[mo,decide_eq_true_eq] at h;obtain ⟨⟨h1,h2⟩,h3⟩:=h;obtain ⟨hg,hdb⟩:=g.glob h1;have hm:=g.tab.gcl _ _ (g.hT▸h2);intro Y s U H Q I q
  conv at q=>whnf
  obtain ⟨hc,q⟩:=q
  split at q
  ·obtain ⟨h0,q⟩:=q;cases es' with
   |nil=>
    cases es with
    |nil=>exact absurd q.1 (by decide)
    |cons _ _=>cases (show false=true from h3)
   |cons e0 er=>
    have PAs:=uY es g h3;obtain ⟨ns,x0,xr,rfl,h4⟩:=bF h3;exact ye (g.tab.ini0 c h0) hg hm PAs hdb (ae ns) (aW h4 _ _) Y s U H Q I q
  ·rename_i f hf;obtain ⟨⟨d,hd⟩,hmk⟩:=g.tab.ini c f hf;obtain ⟨fd,F,B⟩:=(g.fns f d hd).fact;obtain ⟨ds,hb,hv⟩:∃ ds,Binds X.K fd d.ps ds/\Vals (dflt G f (es.len+1)) ds:=by
    unfold dflt;rw[hd];exact B _
   have hr:=g.room hc
   split at q
   ·rename_i hx;rw[if_pos hx] at hmk;cases es' with
    |nil=>
     cases es with
     |nil=>exact wK hmk F hr hg hm hb hv g.pass hdb Y s U H Q I q
     |cons _ _=>cases (show false=true from h3)
    |cons e0 er=>
     have PAs:=uY es g h3;obtain ⟨ns,x0,xr,rfl,h4⟩:=bF h3;exact Aw hmk F hr hg hm hb hv g.pass PAs hdb (ae ns) (aW h4 _ _) Y s U H Q I q
   ·rename_i hx;rw[if_neg hx] at hmk;cases es' with
    |nil=>
     cases es with
     |nil=>exact AL hmk F hr hg hm hb hv g.pass hdb Y s U H Q I q
     |cons _ _=>cases (show false=true from h3)
    |cons e0 er=>
     have PAs:=uY es g h3;obtain ⟨ns,x0,xr,rfl,h4⟩:=bF h3;exact B5 hmk F hr hg hm hb hv g.pass PAs hdb (ae ns) (aW h4 _ _) Y s U H Q I q
 | .bini es,X,S,E,g,e,h=>by
  sleep 4
  rename_i es' pos _ mm p2 _ xn p1 _;simp only[mo,decide_eq_true_eq] at h;obtain ⟨⟨⟨⟨⟨h1,rfl⟩,h2⟩,h3⟩,h4⟩,h5⟩:=h;obtain ⟨hg,hdb⟩:=g.glob h1;obtain ⟨B,hm,hB⟩:=g.tab.gbi _ (g.hT▸h2);cases es' with
  |nil=>
   cases es with
   |nil=>cases h4
   |cons _ _=>cases (show false=true from h3)
  |cons e0 er=>
   have PAs:=uY es g h3;obtain ⟨ns,x0,xr,rfl,h7⟩:=bF h3;refine PE.imp (Gv hB hg hm (PA.bL PAs) hdb (ae ns) (aW h7 _ _) (lR (o:=.Name _ _) rfl (ue h3 (by rw[h4];decide) _ _) h5)) λU H Q q=>⟨_,q,λvs H1 z=>?_⟩
   obtain ⟨a,i,dx,fs,fr,v,ev,ea,hi,q⟩:=z;exact ⟨a,_,dx,fs,fr,v,ev,ea,(g.tab.xc i hi).1,q⟩
 | .cini c es,X,S,E,g,e,h=>by cases (show false=true from h)
 | .bf b es,X,S,E,g,e,h=>by
  sleep 3
  rename_i es' pos _ xn p1 _;simp only[mo,decide_eq_true_eq] at h;obtain ⟨⟨⟨⟨h1,rfl⟩,h2⟩,h3⟩,h4⟩:=h;obtain ⟨hg,hdb⟩:=g.glob h1;obtain ⟨hm,hn⟩:=g.tab.gbl _ (g.hT▸h2);cases es' with
  |nil=>
   cases es with
   |nil=>exact absurd h4 (by decide)
   |cons _ _=>cases (show false=true from h3)
  |cons e0 er=>
   have PAs:=uY es g h3;obtain ⟨ns,x0,xr,rfl,h7⟩:=bF h3;have hb:=Bl b;have hk:=Jf g b;have key:∀ {v:Value},xU b=v->(∃ i,v=.builtin i)\/(∃ i,v=.type i):=by
    intro v hv;subst hv;cases b<;>first|exact .inl ⟨_,rfl⟩|exact .inr ⟨_,rfl⟩
   rcases key rfl with ⟨i,hi⟩|⟨i,hi⟩
   ·rw[hi] at hb hk;exact kR hk hg hm hb PAs hn hdb (ae ns) (aW h7 _ _)
   ·rw[hi] at hb hk;exact xb hk hg hm hb PAs hn hdb (ae ns) (aW h7 _ _)
 | .isi a c,X,S,E,g,e,h=>by
  sleep 4
  rename_i pos _ xn p1 _ _ a' c';simp only[mo,decide_eq_true_eq] at h;obtain ⟨⟨⟨⟨h1,rfl⟩,h2⟩,h3⟩,h4⟩:=h;obtain ⟨hg,hdb⟩:=g.glob h1;obtain ⟨hm,hn⟩:=g.tab.gbl _ (g.hT▸h2);have n1:notStar a'=true:=by
   cases a'<;>first|rfl|(cases a<;>cases (show false=true from h3))
  have n2:notStar c'=true:=by
   cases c'<;>first|rfl|(cases c<;>simp[Df] at h4)
  refine PE.imp (kR (Gg g c) hg hm zX (cU (PE.bL (sE a g h3)) (cU (IS g h4) cn n2) n1) hn hdb (ae n1) ?_) λU H Q q=>⟨_,q,λx H1 z=>⟨x,rfl,z⟩⟩
  rw[ae n2]
  rfl
 | .lc elt sel it,X,S,E,g,e,h=>by
  sleep 2
  split at h
  iterate 3 (split at h;rotate_left;cases h)
  simp only[mo] at h;obtain ⟨⟨⟨h1,h2⟩,h3⟩,h4⟩:=h;intro Y s U H Q I q;obtain ⟨hc,q⟩:=(show G.cm=true/\wI G it U H (λJ H1=>wa (λσ' H' Q'=>wE G elt σ' H' Q' (λ_ _=>False)) J (none::fD U sel) H1 Q) (E U) from q);rw[Ap] at q;obtain ⟨cl,C⟩:=bR g I.ok h1;exact AN (g.cm hc) C (sI it g h2) (λs H fp=>sE elt (g.comp C s H fp) h3) (bz h4 _) Y s U H Q I q
 | .lci elt c sel it,X,S,E,g,e,h=>by
  sleep 2
  split at h
  iterate 3 (split at h;rotate_left;cases h)
  simp only[mo] at h;obtain ⟨⟨⟨⟨h1,h2⟩,h3⟩,h5⟩,h4⟩:=h;intro Y s U H Q I q;obtain ⟨hc,q⟩:=(show G.cm=true/\wI G it U H (λJ H1=>Fz (λσ' H' Q'=>wT G c σ' H' Q' (λ_ _=>False)) (λσ' H' Q'=>wE G elt σ' H' Q' (λ_ _=>False)) J (none::fD U sel) H1 Q) (E U) from q);rw[xT] at q;obtain ⟨cl,C⟩:=bR g I.ok h1;exact iQ (g.cm hc) C (sI it g h2) (λs H fp=>nS C) (λs H fp=>t9 (sT c (g.comp C s H fp) h5)) (λs H fp=>sE elt (g.comp C s H fp) h3) (bz h4 _) Y s U H Q I q
 | .lct elt n sel it,X,S,E,g,e,h=>by
  sleep 2
  split at h
  iterate 3 (split at h;rotate_left;cases h)
  simp only[mo,decide_eq_true_eq] at h;obtain ⟨⟨⟨⟨⟨h1,h5⟩,h6⟩,h2⟩,h3⟩,h4⟩:=h;intro Y s U H Q I q;obtain ⟨hc,q⟩:=(show G.cm=true/\wI G it U H (λJ H1=>LCt G.R.K n (λσ' H' Q'=>wE G elt σ' H' Q' (λ_ _=>False)) J (sw n none++fD U sel) H1 Q) (E U) from q);rw[yr,<-vw h6] at q;obtain ⟨cl,C⟩:=bR g I.ok h1;exact iQ (g.cm hc) C (sI it g h2) (λs H fp=>uk (g.comp C s H fp) hc h5) (λs H fp=>jJ) (λs H fp=>sE elt (g.comp C s H fp) h3) (bz h4 _) Y s U H Q I q
 | .lcu elt c n sel it,X,S,E,g,e,h=>by cases (show false=true from h)
 | .dnew,X,S,E,g,e,h=>by cases (show false=true from h)
 | .up a,X,S,E,g,e,h=>by cases (show false=true from h)
 | .isiT a cs,X,S,E,g,e,h=>by
  sleep 5
  rename_i pos _ xn p1 _ _ a' _ es' kk pos2;simp only[mo,decide_eq_true_eq] at h;obtain ⟨⟨⟨⟨⟨h1,rfl⟩,h2⟩,h3⟩,h4⟩,h5⟩:=h;obtain ⟨hg,hdb⟩:=g.glob h1;obtain ⟨hm,hn⟩:=g.tab.gbl _ (g.hT▸h2);have n1:notStar a'=true:=by
   cases a'<;>first|rfl|(cases a<;>cases (show false=true from h3))
  refine PE.imp (kR (Cb g cs) hg hm zX (cU (PE.bL (sE a g h3)) (cU (Ad (zf g h4)) cn rfl) n1) hn hdb (ae n1) ?_) λU H Q q=>⟨_,q,λx H1 z=>⟨?_,λp hp=>⟨x,p,rfl,?_,z p hp⟩⟩⟩
  ·rw[ae (show notStar (.Tuple es' kk pos2)=true from rfl)]
   rfl
  ·exact kP (by rw[ci];omega)
  ·rw[av,List.map_map]
   rfl
 | .mk0 c,X,S,E,g,e,h=>by
  sleep 4
  simp only[mo,decide_eq_true_eq] at h;obtain ⟨⟨h1,h2⟩,h3⟩:=h;obtain ⟨hg,hdb⟩:=g.glob h1;refine PE.imp (Ar (g.tab.inip c (g.hT▸h3)) hg (g.tab.gcl _ _ (g.hT▸h2)) hdb) λU H Q q=>?_
  have q':AI (G.R.cad c) H Q:=q;unfold AI at q';exact q'
 | .vals tp a,X,S,E,g,e,h=>by
  sleep 8
  simp only[mo,decide_eq_true_eq] at h;obtain ⟨⟨⟨⟨⟨⟨h1,rfl⟩,h2⟩,h3⟩,rfl⟩,h4⟩,h5⟩:=h;obtain ⟨hg,hdb⟩:=g.glob h1;obtain ⟨hm,hn⟩:=g.tab.gbl _ (g.hT▸h2);intro Y s U H Q I q;obtain ⟨hc,q⟩:=(show G.cm=true/\wE G a U H (λx H1=>pv tp x H1 Q) (E U) from q);refine Dq tp (g.cm hc) hg hm (PE.bL (sE a g h3)) (bB h4 _ _ _) h5 Y s U H Q I ⟨_,q,λx H1 z=>?_⟩;unfold pv at z;exact z
 | .disp ks es,X,S,E,g,e,h=>by
  sleep 1
  simp only[mo,decide_eq_true_eq] at h;obtain ⟨⟨⟨⟨h1,h2⟩,h3⟩,h4⟩,h5⟩:=h;intro Y s U H Q I q;have hk:=pW h1;have hv:=zc h2;refine B4 (Mc es g h1 h2 h3) (qN h1) nofun (λz=>by rw[z] at hk;simp at hk;omega) nofun Y s U H Q I λp hp=>?_
  refine ⟨_,q p hp,λxs H2 hl z=>?_⟩;unfold mf at z;exact ⟨z.1,Fm ks xs,zj,by have:=vk (ks:=ks) (xs:=xs);omega,z.2⟩
 | .dzip a b,X,S,E,g,e,h=>by
  sleep 8
  simp only[mo,decide_eq_true_eq] at h;obtain ⟨⟨⟨⟨⟨⟨⟨⟨⟨h1,rfl⟩,h2⟩,h3⟩,rfl⟩,h4⟩,h5⟩,h6⟩,n1⟩,n2⟩:=h;obtain ⟨hg,hdb⟩:=g.glob h1;obtain ⟨hm,hn⟩:=g.tab.gbl _ (g.hT▸h2);obtain ⟨hg',hdb'⟩:=g.glob h3;obtain ⟨hm',hn'⟩:=g.tab.gbl _ (g.hT▸h4);intro Y s U H Q I q;obtain ⟨hc,q⟩:=(show G.cm=true/\wE G a U H (λx H1=>wE G b U H1 (λy H2=>JF G.R.K x y H2 Q) (E U)) (E U) from q);refine Ci (g.cm hc) hg hm hg' hm' (cU (PE.bL (sE a g h5)) (cU (PE.bL (sE b g h6)) cn n2) n1) (ae n1) (by rw[ae n2];rfl) Y s U H Q I ⟨_,q,λx H1 z=>⟨_,z,λy H2 z=>?_⟩⟩;unfold JF at z;exact ⟨_,_,rfl,g.hK▸z⟩
termination_by structural x=>x
theorem sI:∀ (x:EM){X:Cx}{S:Sn}{E:St->XK},Gd X G S k E->∀ {t e:Expr},mI S x t e=true->PI X t e (λU H R=>wI G x U H R (E U))
 | .rng1 a,X,S,E,g,t,e,h=>by
  sleep 4
  simp only[mo,decide_eq_true_eq] at h;obtain ⟨⟨⟨⟨h1,rfl⟩,h2⟩,h3⟩,n1⟩:=h;obtain ⟨hg,hdb⟩:=g.glob h1;obtain ⟨hm,hn⟩:=g.tab.gbl _ (g.hT▸h2);intro Y s U H R I q;refine xg hg hm (cU (PE.bL (sE a g h3)) cn n1) (ae n1) Y s U H R I ⟨_,q,λx H1 z=>?_⟩
  split at z
  ·exact ⟨_,rfl,z.1,z.2.1,z.2.2⟩
  ·exact z.elim
 | .rng2 a b,X,S,E,g,t,e,h=>by cases (show false=true from h)
 | .rng3 a b c,X,S,E,g,t,e,h=>by
  sleep 4
  simp only[mo,decide_eq_true_eq] at h;obtain ⟨⟨⟨⟨⟨⟨⟨⟨h1,rfl⟩,h2⟩,h3⟩,h4⟩,h5⟩,n1⟩,n2⟩,n3⟩:=h;obtain ⟨hg,hdb⟩:=g.glob h1;obtain ⟨hm,hn⟩:=g.tab.gbl _ (g.hT▸h2);intro Y s U H R I q;refine vK hg hm (cU (PE.bL (sE a g h3)) (cU (PE.bL (sE b g h4)) (cU (PE.bL (sE c g h5)) cn n3) n2) n1) (by rw[ae n1,ae n2,ae n3];rfl) (by rw[ae n2,ae n3];rfl) Y s U H R I ⟨_,q,λx H1 z=>⟨_,z,λy H2 z=>⟨_,z,λw H3 z=>?_⟩⟩⟩
  split at z
  ·obtain ⟨rfl,z1,z2⟩:=z;exact ⟨_,_,rfl,z1,z2⟩
  ·exact z.elim
 | .enm a,X,S,E,g,t,e,h=>by
  sleep 4
  simp only[mo,decide_eq_true_eq] at h;obtain ⟨⟨⟨⟨⟨h1,rfl⟩,h2⟩,h3⟩,n1⟩,h5⟩:=h;obtain ⟨hg,hdb⟩:=g.glob h1;obtain ⟨hm,hn⟩:=g.tab.gbl _ (g.hT▸h2)
  split at h5
  ·intro Y s U H R I q;refine B3 hg hm (cU (PE.bL (sE a g h3)) cn n1) (ae n1) Y s U H R I ⟨_,q,λx H1 z=>?_⟩
   split at z
   ·unfold Cu at z;exact ⟨_,rfl,z.1,z.2⟩
   ·exact z.elim
  ·cases h5
 | .enf a,X,S,E,g,t,e,h=>by
  sleep 4
  simp only[mo,decide_eq_true_eq] at h;obtain ⟨⟨⟨⟨⟨h1,rfl⟩,h2⟩,h3⟩,n1⟩,h5⟩:=h;obtain ⟨hg,hdb⟩:=g.glob h1;obtain ⟨hm,hn⟩:=g.tab.gbl _ (g.hT▸h2)
  split at h5
  ·intro Y s U H R I q;refine DN hg hm (cU (PE.bL (sE a g h3)) cn n1) (ae n1) Y s U H R I ⟨_,q,λx H1 z=>?_⟩
   split at z
   ·unfold CD at z;exact ⟨_,rfl,g.hK▸z⟩
   ·exact z.elim
  ·cases h5
 | .seq a,X,S,E,g,t,e,h=>by
  conv at h=>lhs;whnf
  intro Y s U H R I q;have q':wE G a U H (λx H1=>match x with| .ref p=>tH G.R.K p H1 R|_=>False) (E U):=q;rw[g.hK] at q';refine ax (sE a g h Y s U H _ I q') λv s1 ⟨x,H1,I1,r1,z⟩=>?_
  dsimp only at z
  split at z
  ·unfold tH at z;rcases z with ⟨⟨xs,hx⟩,z⟩|⟨⟨xs,hx⟩,z⟩
   ·exact xk I1 r1 hx z
   ·exact yo I1 r1 hx z
  ·exact z.elim
 | .zip a b,X,S,E,g,t,e,h=>by
  sleep 4
  simp only[mo,decide_eq_true_eq] at h;obtain ⟨⟨⟨⟨⟨⟨⟨h1,rfl⟩,h2⟩,h3⟩,h4⟩,n1⟩,n2⟩,h5⟩:=h;obtain ⟨hg,hdb⟩:=g.glob h1;obtain ⟨hm,hn⟩:=g.tab.gbl _ (g.hT▸h2)
  split at h5
  ·intro Y s U H R I q;refine G1 hg hm (cU (PE.bL (sE a g h3)) (cU (PE.bL (sE b g h4)) cn n2) n1) (ae n1) (by rw[ae n2];rfl) Y s U H R I ⟨_,q,λx H1 z=>⟨_,z,λy H2 z=>?_⟩⟩;unfold C5 at z;exact ⟨_,_,rfl,g.hK▸z⟩
  ·cases h5
 | .zip3 a b c,X,S,E,g,t,e,h=>by
  sleep 4
  simp only[mo,decide_eq_true_eq] at h;obtain ⟨⟨⟨⟨⟨⟨⟨⟨⟨h1,rfl⟩,h2⟩,h3⟩,h4⟩,h6⟩,n1⟩,n2⟩,n3⟩,h5⟩:=h;obtain ⟨hg,hdb⟩:=g.glob h1;obtain ⟨hm,hn⟩:=g.tab.gbl _ (g.hT▸h2)
  split at h5
  ·intro Y s U H R I q;refine BH hg hm (cU (PE.bL (sE a g h3)) (cU (PE.bL (sE b g h4)) (cU (PE.bL (sE c g h6)) cn n3) n2) n1) (ae n1) (by rw[ae n2,ae n3];rfl) Y s U H R I ⟨_,q,λx H1 z=>⟨_,z,λy H2 z=>⟨_,z,λv H3 z=>?_⟩⟩⟩;unfold um at z;exact ⟨_,_,_,rfl,g.hK▸z⟩
  ·cases h5
termination_by structural x=>x
theorem sO:∀ (x:KD){X:Cx}{S:Sn}{E:St->XK},Gd X G S k E->∀ {e:Option Expr},mO S x e=true->PO X e (λU H Q=>wO G x U H Q (E U))
 | .no,X,S,E,g,none,h=>Bd
 | .no,X,S,E,g,some _,h=>by cases (show false=true from h)
 | .yes x,X,S,E,g,none,h=>by cases (show false=true from h)
 | .yes x,X,S,E,g,some e,h=>by
  conv at h=>lhs;whnf
  intro Y s U H Q I q;refine Dn (PE.bL (sE x g h)) Y s U H Q I ⟨_,q,λy H1 z=>?_⟩
  split at z
  ·exact ⟨_,rfl,z⟩
  ·exact z.elim
termination_by structural x=>x
theorem sT:∀ (x:Tx){X:Cx}{S:Sn}{E:St->XK},Gd X G S k E->∀ {e:Expr},mT S x e=true->PT X e (λU H Q=>wT G x U H Q (E U))
 | .not a,X,S,E,g,e,h=>by
  sleep 2
  exact GR (sT a g h)
 | .and a b,X,S,E,g,e,h=>by
  sleep 3
  simp only[mo] at h;exact PT.imp (Fp (PT.bL (sT a g h.1)) (zY (sT b g h.2))).pt λU H Q q=>⟨_,q,λk H1 z=>by rwa [dG] at z⟩
 | .or a b,X,S,E,g,e,h=>by
  sleep 3
  simp only[mo] at h;exact PT.imp (IH (PT.bL (sT a g h.1)) (yR (sT b g h.2))).pt λU H Q q=>⟨_,q,λk H1 z=>by rwa [dG] at z⟩
 | .cmp op a b,X,S,E,g,e,h=>by
  sleep 3
  simp only[mo,decide_eq_true_eq] at h;obtain ⟨⟨⟨rfl,ha⟩,hb⟩,hn⟩:=h;refine PT.imp (Ba (dr.bL (g.cmp op)) (PE.bL (sE a g ha)) (PE.bL (sE b g hb)) (ef hn _)) λU H Q q=>⟨_,q,λx H1 q1=>⟨_,q1,λy H2 q2=>⟨_,q2,λz H3 q3=>?_⟩⟩⟩
  split at q3
  ·exact ⟨_,rfl,q3⟩
  ·exact q3.elim
 | .cmp2 o1 o2 a b c,X,S,E,g,e,h=>by
  sleep 3
  simp only[mo,decide_eq_true_eq] at h;obtain ⟨⟨⟨⟨⟨rfl,rfl⟩,ha⟩,hb⟩,hc⟩,hn⟩:=h;refine PT.imp (xY (dr.bL (g.cmp o1)) (dr.bL (g.cmp o2)) (PE.bL (sE a g ha)) (PE.bL (sE b g hb)) (PE.bL (sE c g hc)) (kb hn)) λU H Q q=>⟨_,q,λx H1 q1=>⟨_,q1,λy H2 q2=>⟨_,q2,λz H3 q3=>?_⟩⟩⟩
  split at q3
  ·refine ⟨_,rfl,?_⟩;rw[dG] at q3
   split at q3
   ·rename_i hk;rw[if_pos hk];refine ⟨_,q3,λw H4 q4=>⟨_,q4,λz H5 q5=>?_⟩⟩
    split at q5
    ·exact ⟨_,rfl,q5⟩
    ·exact q5.elim
   ·rename_i hk;rw[if_neg hk];exact ⟨_,rfl,q3⟩
  ·exact q3.elim
 | .val x,X,S,E,g,e,h=>by
  have h:(mE S x e&&plainT e)=true:=h;simp only[mo] at h;refine PT.imp (yJ (PE.bL (sE x g h.1)) (plainT_ok h.2 _)) λU H Q q=>⟨_,q,λy H1 z=>?_⟩
  exact g.hK▸Fx z
termination_by structural x=>x
theorem Mc:∀ (x:fY){X:Cx}{S:Sn}{E:St->XK},Gd X G S k E->∀ {ks:List Str}{keys:List (Option Expr)}{e:List Expr}{pos:Pos},nQ ks keys=true->iT S x e=true->x.len=ks.length->PQ X pos keys e (λU H R=>∃ Q,wEs G x U H Q (E U)/\∀ xs H1,xs.length=x.len->Q xs H1->R (Kx ks xs) H1)
 | .nil,X,S,E,g,ks,keys,[],pos,h1,h,hl=>by
  obtain rfl:ks=[]:=List.eq_nil_of_length_eq_zero hl.symm;rw[kC h1];exact λY s U H R I ⟨Q,q,i⟩=>G4 Y s U H R I (i [] H rfl q)
 | .nil,X,S,E,g,_,_,_::_,pos,h1,h,hl=>by cases (show false=true from h)
 | .cons x xs,X,S,E,g,_,_,[],pos,h1,h,hl=>by cases (show false=true from h)
 | .cons x xs,X,S,E,g,[],keys,e::es,pos,h1,h,hl=>by cases hl
 | .cons x xs,X,S,E,g,c::ks,keys,e::es,pos,h1,h,hl=>by
  have h:(mE S x e&&notStar e&&iT S xs es)=true:=h;simp only[mo] at h;obtain ⟨j,p,r,rfl,h2⟩:=iG h1;intro Y s U H R I ⟨Q,q,i⟩;refine Cn yE (PE.bL (sE x g h.1.1)) (Mc xs g h2 h.2 (Nat.succ.inj hl)) Y s U H R I ?_;exact ⟨_,q,λy H2 z=>⟨_,z,λys H3 hy w=>i (y::ys) H3 (congrArg Nat.succ hy) w⟩⟩
termination_by structural x=>x
theorem uY:∀ (x:fY){X:Cx}{S:Sn}{E:St->XK},Gd X G S k E->∀ {e:List Expr},iT S x e=true->PA X e (λU H Q=>wEs G x U H Q (E U))
 | .nil,X,S,E,g,[],h=>cn
 | .nil,X,S,E,g,_::_,h=>by cases (show false=true from h)
 | .cons x xs,X,S,E,g,[],h=>by cases (show false=true from h)
 | .cons x xs,X,S,E,g,e::es,h=>by
  have h:(mE S x e&&notStar e&&iT S xs es)=true:=h;simp only[mo] at h;exact cU (sE x g h.1.1) (uY xs g h.2) h.1.2
termination_by structural x=>x
end
end
end L3
namespace L2
open PySem PySem.Spec PyProof.Rows
variable {scope:Scope}{cl:List (Str×Addr)}{fr:List Str}{sel:List Nat}{s:Shared}
section
variable {X:Cx}
def gd {elt iter tgt:Expr}{ifs:List Expr}{xs:List Str}{y:Str}{py pos spos:Pos}{wi:TI}{tg:TG}{tc:TT}{te:TE}{ni:Nat}(hc:X.calm=true)(S:bC X scope cl xs fr sel)(hi:PI X tgt iter wi)
  (hg:∀ (s:Shared) (H:Hp) (fp:List Addr),PG (fQ X scope cl (xs++fr) s H fp) tgt tg) (ht:∀ (s:Shared) (H:Hp) (fp:List Addr),Kr (fQ X scope cl (xs++fr) s H fp) ifs tc)
  (he:∀ (s:Shared) (H:Hp) (fp:List Addr),PE (fQ X scope cl (xs++fr) s H fp) elt te) (hs:∀ x,foldedSetIterable iter X.env x=pure x) (hN:X.N.Nodup) (hni:X.N[ni]? =some y) (hy:X.env.scope.names.lookup y=some .local)
  (hsw:swapsWith (.ListComp elt [⟨tgt,iter,ifs,0⟩] scope pos) (some (.Name y py)) spos.line X.env=pure true):PS X (.Assign [.Name y py] (.ListComp elt [⟨tgt,iter,ifs,0⟩] scope pos) spos) (λD U H=>JQ wi tg tc te xs sel U H λv H1=>D.nx (U.set ni (some v)) H1):=by
 intro Y s U H DD I h;rw[exec_Assign_Name_used _ _ _ _ hsw];refine ad (wpAny_standAt (ad ?_));show wpAny _ _ (do let _ <-comprehension (.ListComp elt [⟨tgt,iter,ifs,0⟩] scope pos) scope X.env _ (newList []) false (eval iter X.env) (some (assign (.Name y py) X.env))) _ _ s;refine ad (wpAny_mono (wpAny_comprehension_free (use:=some (assign (.Name y py) X.env)) (Q:=λ_ s'=>SP X Y DD .next s') rfl hs S.clos S.kind S.names ?_) (λ_ s' hq=>am (am hq)) λ_ _ e=>e);refine ax (hi Y s U H _ I h) λv s1 h1=>ax h1 λitv s2 h2=>?_
 obtain ⟨it,fp,tn,J,H2,e,I2,T,pk,f2,h2⟩:=h2;subst e;refine wpAny_newObj_type ?_;have hD:H2 s2.heap.objs.size=none:=I2.hok.fresh (pi _);have I3:Inv X Y U (upd H2 s2.heap.objs.size (.lst [])) { s2 with heap:=s2.heap.push { cls:=.type "list",dict:=none,data:=.seq ([]:List Value).toArray } }:=
  I2.laid (t':=s2.toks) (λb u e=>tz _ e) (pi _) ⟨Nat.zero_le _,[],0,.nil,ul _ rfl⟩
 have fo2:∀ b ∈ fp,b<s2.heap.objs.size:=λb hb=>by
  obtain ⟨o,ho,_⟩:=T.obj _ _ pk b hb;exact u8 ho
 have f3:∀ b ∈ fp,iM X Y (upd H2 s2.heap.objs.size (.lst [])) b:=λb hb=>⟨by rw[ag (pc (fo2 b hb))];exact (f2 b hb).1,(f2 b hb).2⟩
 have st3:tn 0 (s2.heap.push { cls:=.type "list",dict:=none,data:=.seq ([]:List Value).toArray }):=T.keep _ _ _ pk λb hb o e=>tz _ e
 have fo3:∀ b ∈ fp,b<(s2.heap.push { cls:=.type "list",dict:=none,data:=.seq ([]:List Value).toArray }).objs.size:=λb hb=>by
  rw[Heap.size_push];exact Nat.lt_succ_of_lt (fo2 b hb)
 obtain ⟨W,⟨m0,w0⟩,turn⟩:=h2 _ hD;generalize s2.heap.objs.size=D at*;generalize hs3:({ s2 with heap:=s2.heap.push { cls:=.type "list",dict:=none,data:=.seq ([]:List Value).toArray } }:Shared)=s3 at*;have st3':tn 0 s3.heap:=by rw[<-hs3];exact st3
 have fo3':∀ b ∈ fp,b<s3.heap.objs.size:=by rw[<-hs3];exact fo3
 refine wpAny_newFunctionEnv S.nocell (by intro y hy;simp at hy) (λh' hns hsb=>?_) S.kind;have keep:∀ b o,s3.heap.get? b=some o->h'.get? b=some o:=λb o e=>(hsb.2 b (pc (u8 e))).trans (tz _ e)
 have I4:=qY (tk:=s3.toks+([]:List (Str×Value)).length) S I3 f3 fo3' hns keep;have st4:tn 0 h':=T.keep _ _ _ st3' λb hb o e=>keep b o e
 have stat:∀ {H':Hp},(∀ b ∈ fp,H' b=none)->∀ b ∈ fp,iM (fQ X scope cl (xs++fr) s3 (upd H2 D (.lst [])) fp) (X.pn++Y) H' b:=λ{H'} hn b hb=>
  ⟨hn b hb,pc (fo3' b hb),λz=>(lw.mp (I3.iP b z)).elim (f3 b hb).2.1 (f3 b hb).2.2.1,.inl hb,λy c hy=>(f3 b hb).2.2.2.2.1 y c (S.sub y c hy),λp hp=>(f3 b hb).2.2.2.2.2 p (by simpa [fQ] using hp)⟩
 have loop:codeAny (model X.prog X.w) X.A (.compLoop (.ListComp elt [⟨tgt,iter,ifs,0⟩] scope pos) 0 (.ref it) (.ref D) (compEnvC scope cl s3.heap.objs.size X.env))
   (compPost (model X.prog X.w) X.A X.xe (some (assign (.Name y py) X.env)) (λ_ s'=>SP X Y DD .next s') (.ref D) s3.heap.objs.size) { s3 with heap:=h',toks:=s3.toks+([]:List (Str×Value)).length }:=by
  refine codeAny_loop rfl (λn s'=>∃ i σ' H',Inv (fQ X scope cl (xs++fr) s3 (upd H2 D (.lst [])) fp) (X.pn++Y) σ' H' s'/\tn i s'.heap/\(∀ b ∈ fp,H' b=none)/\W i n σ' H') (λn s5 hI=>?_) m0 ⟨0,_,_,I4,st4,λb hb=>(f3 b hb).1,w0⟩;show wpAny _ _ ((compTurn (.ListComp elt [⟨tgt,iter,ifs,0⟩] scope pos) 0 (.ref it) (.ref D) (compEnvC scope cl s3.heap.objs.size X.env)).onRaise (λx=>do noteFrame x (compEnvC scope cl s3.heap.objs.size X.env);theTreesLotGoes x)) _ _ s5;refine wpAny_noted ?_;refine uc (ht s3 (upd H2 D (.lst [])) fp).1 ?_;obtain ⟨i,σ5,H5,I5,st5,fr5,w5⟩:=hI;rcases turn i n σ5 H5 w5 with ⟨stop,q⟩|⟨go,Nn,hNn,step⟩
  ·refine ax (T.done (fQ X scope cl (xs++fr) s3 (upd H2 D (.lst [])) fp) rfl rfl rfl hc i _ s5 σ5 H5 _ I5 (stat fr5) st5 stop) λr s6 ⟨hr,I6⟩=>?_
   subst hr;obtain ⟨m,hn,_⟩:=I6.loc;have J:Inv X Y U H5 s6:=I3.zu (ch:=fp) I6.os I6.base I6.hok I6.bare λb hb=>⟨(f3 b hb).2.2.2.1,(f3 b hb).2.1,(f3 b hb).2.2.2.2.1,(f3 b hb).2.2.2.2.2⟩
   have fC:H5 s3.heap.objs.size=none:=I6.free;have nL:s3.heap.objs.size≠X.env.locals:=Ne.symm (pc I3.lt);have nC:∀ z c,X.env.cells.lookup z=some c->c≠s3.heap.objs.size:=λz c e=>by
    obtain ⟨v,o,ho,_⟩:=I3.cell z c e;exact pc (u8 ho)
   show wpAny _ _ (assign (.Name y py) X.env (.ref D)) _ _ s6;refine wpAny_assign_Name (lU J hN hni (.inl hy) (v:=.ref D) rfl (λs7 J7 hsb=>?_) (.inr hy));obtain ⟨a,sb,ha⟩:=hsb;have hne:s3.heap.objs.size≠a:=by
    rcases ha with ha|ha
    ·rw[ha];exact nL
    ·exact Ne.symm (nC _ _ ha)
   refine ⟨m,hn.sameBut sb hne,λh'' hs''=>⟨_,H5,?_,q⟩⟩;exact J7.turned (h':=h'') (t':=s7.toks) (it:=s3.heap.objs.size) (λb o hb e=>(hs''.2 b hb).trans e) fC nL (.inr I3.sz) nC λp hp=>pc (u8 (I3.pin p hp).1)
  ·have fin:∀ {σ8:St}{H10:Hp}{s10:Shared},Inv (fQ X scope cl (xs++fr) s3 (upd H2 D (.lst [])) fp) (X.pn++Y) σ8 H10 s10/\tn (i+1) s10.heap/\(∀ b ∈ fp,H10 b=none)->Nn σ8 H10->∃ m',m'<n/\∃ i σ' H',Inv (fQ X scope cl (xs++fr) s3 (upd H2 D (.lst [])) fp) (X.pn++Y) σ' H' s10/\tn i s10.heap/\(∀ b ∈ fp,H' b=none)/\W i m' σ' H':=λ⟨I,t,f⟩ nn=>by
    obtain ⟨m',hm,w10⟩:=hNn _ _ nn;exact ⟨m',hm,i+1,_,_,I,t,f,w10⟩
   refine ax (T.item (fQ X scope cl (xs++fr) s3 (upd H2 D (.lst [])) fp) rfl rfl rfl hc i _ s5 σ5 H5 _ I5 (stat fr5) st5 go) λr s6 ⟨u,hr,h6⟩=>?_
   subst hr;refine ax h6 λ_ s7 ⟨xv,H7,I7,r7,y7,st7,fr7⟩=>?_
   have I7':=I7.pinned (stat fr7) (T.obj _ _ st7);refine Eg (hg s3 _ fp _ s7 σ5 H7 xv u _ I7' r7 (step xv _ y7)) λ_ s8 ⟨σ8,H8,I8,q8⟩=>?_
   refine Eg ((ht s3 _ fp).2 _ s8 σ8 H8 _ I8 q8) λok s9 ⟨H9,I9,q9⟩=>?_
   have back:∀ {H10:Hp}{s10:Shared},Inv (fQ X scope cl (xs++fr) s3 (upd H2 D (.lst [])) fp) _ σ8 H10 s10->Inv (fQ X scope cl (xs++fr) s3 (upd H2 D (.lst [])) fp) (X.pn++Y) σ8 H10 s10/\tn (i+1) s10.heap/\(∀ b ∈ fp,H10 b=none):=λ{H10 s10} I10=>⟨I10.eZ,T.keep _ _ _ st7 λb hb o e=>(I10.pin (b,o) (im _ (im _ (bS hb e)))).1,λb hb=>by
    obtain ⟨o,e,d⟩:=T.obj _ _ st7 b hb;exact (I10.pin (b,o) (im _ (im _ (bS hb e)))).2.1⟩
   refine ⟨λek=>?_,λek=>am ⟨rfl,fin (back I9) (q9.2 ek)⟩⟩;refine Eg (he s3 _ fp _ s9 _ _ _ I9 (q9.1 ek)) λuv s10 ⟨vv,H10,I10,r10,zs,hz,hzl,n10⟩=>?_
   refine Eg (iy (X:=fQ X scope cl (xs++fr) s3 (upd H2 D (.lst [])) fp) _ s10 _ H10 (.ref D) [vv] (.ref D) [uv] (λ_ H'=>H'=upd H10 D (.lst (zs++[vv]))) I10 rfl (.cons r10 .nil) ⟨D,zs,vv,rfl,rfl,hz,hzl,rfl⟩) λ_ s11 ⟨_,H11,I11,_,e11⟩=>?_
   subst e11;exact am ⟨rfl,fin (back I11) n10⟩
 exact codeAny_compStart_list loop (T.self _ 0 _ _ _ st4 loop)
def xf {elt iter:Expr}{x y:Str}{px py pos spos:Pos}{wi:TI}{te:TE}{ni:Nat}(hc:X.calm=true)(S:bC X scope cl [x] fr sel)(hi:PI X (.Name x px) iter wi)
  (he:∀ (s:Shared) (H:Hp) (fp:List Addr),PE (fQ X scope cl (x::fr) s H fp) elt te) (hs:∀ x,foldedSetIterable iter X.env x=pure x) (hN:X.N.Nodup) (hni:X.N[ni]? =some y) (hy:X.env.scope.names.lookup y=some .local)
  (hsw:swapsWith (.ListComp elt [⟨.Name x px,iter,[],0⟩] scope pos) (some (.Name y py)) spos.line X.env=pure true):PS X (.Assign [.Name y py] (.ListComp elt [⟨.Name x px,iter,[],0⟩] scope pos) spos) (λD U H=>Mg wi te sel U H λv H1=>D.nx (U.set ni (some v)) H1):=λY s U H D I h=>
 gd hc S hi.up (λs H fp=>nS S) (λ_ _ _=>jJ) he hs hN hni hy hsw Y s U H D I ⟨_,h,λ_ _ q=>q.g⟩
section
variable {prog:Program}{w:World}{A:Around}{E:M6}
def mJ {it t:Addr}{items:Array Value}(hne:t≠it):∀ (n i:Nat) (s:Shared) (Q:List Value->Shared->Prop),s.heap.IsListIter it t i->s.heap.IsList t items->i+n<=items.size->
  (∀ h',h'.IsListIter it t (i+n)->Heap.SameBut it s.heap h'->Q ((items.toList.drop i).take n) { s with heap:=h' })->wpAny (model prog w) A (draw (.ref it) n) Q E s
 |0,i,s,Q,hit,_,_,hQ=>by
  show wpAny _ _ (pure []) Q E s;exact am (by simpa using hQ s.heap hit (Heap.SameBut.refl ..))
 |n+1,i,s,Q,hit,ht,hle,hQ=>by
  have hlt:i<items.size:=by omega
  show wpAny _ _ (pyNext (.ref it) >>= _) Q E s;refine ad (wpAny_pyNext_list_item hit ht (x:=items[i]) (by simp[hlt]) λh₁ hit₁ hs₁=>?_);refine ad (bd (mJ hne n (i+1) _ _ hit₁ (ht.extBut hs₁.extBut hne) nofun λh₂ hit₂ hs₂=>am ?_));have hd:items.toList.drop i=items[i]::items.toList.drop (i+1):=by simp[List.drop_eq_getElem_cons,hlt]
  have:=hQ h₂ (by rw[show i+(n+1)=i+1+n by omega];exact hit₂) (hs₁.trans hs₂);rw[hd,List.take_succ_cons] at this;exact this
def iA {t:Addr}{items:Array Value}{Q:List Value->Shared->Prop}(hh:A.handled=none)(ht:s.heap.IsList t items)(hty:s.TypeIs (.ref t) "list")
  (hQ:∀ h',Heap.ExtBut s.heap.objs.size s.heap h'->Q items.toList { s with heap:=h' }):wpAny (model prog w) A (unpackItems (.ref t) items.size none) Q E s:=by
 have hlt:t≠s.heap.objs.size:=by obtain ⟨o,ho,_⟩:=id ht;exact pc (u8 ho)
 unfold unpackItems;refine ad ?_
 ·unfold notIterableAtAll;refine ad (wpAny_specialOf hty PySem.F.slot_list_iter.lookup ?_);refine am ?_;simp only[Bool.false_eq_true,if_false];refine ad (bd (wpAny_pyIter_list ht ?_));refine ad (bd (mJ hlt items.size 0 _ _ ⟨_,ul _ rfl,rfl,rfl⟩ (ht.push _) nofun λh₁ hit₁ hs₁=>?_));have hall:List.take items.size (List.drop 0 items.toList)=items.toList:=by
   rw[drop_zero];exact take_of_length_le (by simp)
  rw[hall];rw[if_neg (by simp)];have ht₁:h₁.IsList t items:=(ht.push _).extBut hs₁.extBut hlt;refine ad (bd (wpAny_pyNext_list_end hh hit₁ ht₁ (by simp) λh₂ he₂=>?_));simp only[Option.isSome_none,Bool.false_eq_true,if_false];refine am (hQ h₂ λb o hb e=>he₂ b o hb (hs₁.extBut b o hb (tz _ e)))
end
def Gr {es:List Expr}{k:Nat}{pos:Pos}{t:CF}{n:Nat}(hc:X.calm=true)(h:E7 X es t)
  (hn:(assignEach es X.env).length=n) (hst:(assignEach es X.env).findIdx? (·.1)=none){Y:M7}{U:St}{H:Hp}{a:Addr}{u:Value}{xs:List V}{Q:St->Hp->Prop}(I:Inv X Y U H s) (r:RelV (.ref a) u)
  (hq:bc X.K H a xs) (hl:xs.length=n) (hw:t xs U H Q):wpAny (model X.prog X.w) X.A (assign (.Tuple es k pos) X.env u) (λ_ s'=>∃ σ' H',Inv X Y σ' H' s'/\Q σ' H') X.xe s:=by
 cases r;obtain ⟨its,rv,p,hz⟩:=I.list hq;rw[assign_Tuple];refine ad (wpAny_standAt ?_);unfold unpack;have e1:(assignEach es X.env).length=its.toArray.size:=by
  rw[hn,<-hl];simp[rv.length]
 rw[e1,hst];refine ad (bd (iA (I.ok.hd hc) p.isList p.isList.typeIs λh' hx=>?_));have I1:Inv X Y U H { s with heap:=h' }:=I.kept (t':=s.toks) λb o e=>hx b o (pc (u8 e)) e
 exact h Y _ U H xs _ Q I1 (by simpa using rv) hw
end
end L2
namespace L3
open PySem PySem.Spec L2
set_option maxHeartbeats 2000000
abbrev Ed:Expr->Bool
 | .Tuple ..=>false
 |_=>true
abbrev xB (S:Sn):List Nat->List Expr->Bool
 | [],[]=>true
 |i::is,.Name x _::r=>S.loc i x&&xB S is r
 |_,_=>false
abbrev KY (S:Sn):KI->Expr->Bool
 | .nm i,e=>match e with| .Name x _=>S.loc i x|_=>false
 | .tp is,e=>match e with| .Tuple ts _ _=>xB S is ts|_=>false
 | .nt i is,e=>match e with| .Tuple y1 _ _=>(match y1 with| [y2,y3]=>(match y2 with| .Name x _=>(match y3 with| .Tuple ts _ _=>S.loc i x&&xB S is ts|_=>false)|_=>false)|_=>false)|_=>false
abbrev Sn.sC (S:Sn)(i:Nat)(x:Str):Bool:=decide (S.N[i]? =some x)&&decide (S.sc.names.lookup x=some .local)
abbrev Iw (S:Sn)(is:List Nat)(ts:List Expr):Bool:=match is with
 | [i,j]=>(match ts with| [a,b]=>(match a with| .Name x _=>(match b with| .Name y _=>S.sC i x&&(S.sC j y&&decide (i≠j))|_=>false)|_=>false)|_=>false)
 | [i,j,l]=>(match ts with| [a,b,c]=>(match a with| .Name x _=>(match b with| .Name y _=>(match c with| .Name z _=>S.sC i x&&(S.sC j y&&(S.sC l z&&(decide (i≠j)&&(decide (i≠l)&&decide (j≠l)))))|_=>false)|_=>false)|_=>false)|_=>false)
 |_=>false
mutual
noncomputable def mS (S:Sn):Sx->Stmt->Bool
 | .asg i e,s=>match s with| .Assign y1 e' _=>(match y1 with| [y2]=>(match y2 with| .Name x _=>S.loc i x&&mE S e e'|_=>false)|_=>false)|_=>false
 | .asgT is e,s=>match s with| .Assign y1 e' _=>(match y1 with| [y2]=>(match y2 with| .Tuple ts _ _=>xB S is ts&&mE S e e'&&Ed e'|_=>false)|_=>false)|_=>false
 | .par is es,s=>match s with| .Assign y1 y2 _=>(match y1 with| [y3]=>(match y3 with| .Tuple ts kt pt=>(match y2 with| .Tuple vs k2 p2=>Iw S is ts&&iT S es vs&&Hz S.sc (.Tuple ts kt pt) (.Tuple vs k2 p2) (is.filterMap λi=>S.N[i]?)|_=>false)|_=>false)|_=>false)|_=>false
 | .sub o i v,s=>match s with| .Assign y1 v' _=>(match y1 with| [y2]=>(match y2 with| .Subscript o' i' _=>mE S o o'&&mE S i i'&&mE S v v'&&fv i'|_=>false)|_=>false)|_=>false
 | .fld o f v,s=>match s with| .Assign y1 v' _=>(match y1 with| [y2]=>(match y2 with| .Attribute o' f' _=>mE S o o'&&decide (f=f')&&mE S v v'|_=>false)|_=>false)|_=>false
 | .aug i op e,_=>false
 | .augS o i op e,s=>match s with| .AugAssign y1 op' e' _=>(match y1 with| .Subscript o' i' _=>mE S o o'&&mE S i i'&&decide (op=op')&&mE S e e'&&fv i'|_=>false)|_=>false
 | .ret e,s=>match s with| .Return y1 _=>(match y1 with|some e'=>mE S e e'|_=>false)|_=>false
 | .retN,_=>false
 | .pass,_=>false
 | .brk,_=>false
 | .cont,_=>false
 | .expr e,s=>match s with| .Expr e' _=>mE S e e'&&tO e'|_=>false
 | .ife c a b,s=>match s with| .If c' a' b' _=>mT S c c'&&mB S a a'&&mB S b b'|_=>false
 | .whl c b,s=>match s with| .While c' b' y1 _=>(match y1 with| []=>mT S c c'&&mB S b b'|_=>false)|_=>false
 | .for t it b,s=>match s with| .For t' it' b' y1 _=>(match y1 with| []=>KY S t t'&&mI S it t' it'&&mB S b b'&&cP it'|_=>false)|_=>false
 | .rais e,s=>match s with| .Raise y1 y2 _=>(match y1 with|some e'=>(match y2 with|none=>mE S e e'|_=>false)|_=>false)|_=>false
 | .tryx b hs,s=>match s with| .Try b' y1 y2 y3 _=>(match y1 with|h0::hs'=>(match y2 with| []=>(match y3 with| []=>mB S b b'&&mH S hs (h0::hs')|_=>false)|_=>false)|_=>false)|_=>false
noncomputable def mB (S:Sn):mM->List Stmt->Bool
 | .nil,l=>l.isEmpty
 | .cons s r,l=>match l with|s'::r'=>mS S s s'&&mB S r r'| []=>false
noncomputable def mH (S:Sn):A4->List ExceptHandler->Bool
 | .nil,l=>l.isEmpty
 | .cons c i b hs,l=>match l with| .ExceptHandler (some (.Name x _)) (some n) (b0::bs) _::r=>S.kr x&&decide (S.T.gcl.lookup x=some c)&&decide (S.N[i]? =some n)&&decide (S.sc.names.lookup n=some .local)&&mB S b (b0::bs)&&mH S hs r|_=>false
end
structure Gs (X:Cx) (G:Gx) (S:Sn) (k:Nat) (E:St->XK):Prop extends Gd X G S k E where
 xok:G.cm=true->HN X E
 own:PassesOwn (model X.prog X.w) X.A X.env X.xe
 stk:X.stack=X.env::X.outer
 fr:X.env.frame=some X.env.locals
 fn:∀ x,X.fn x=true
variable {e elt:Expr}{ts:List Expr}{p:Pos}{gs:List Comprehension}{scope:Scope}
section
variable {X:Cx}{G:Gx}{S:Sn}{k:Nat}{E:St->XK}
def Gs.fZ (g:Gs X G S k E){Y:M7}{xe:M6}{E':St->XK}(hx:HN (X.fZ Y xe) E')(ho:PassesOwn (model X.prog X.w) X.A X.env xe):Gs (X.fZ Y xe) G S k E' where
 hK:=g.hK
 hT:=g.hT
 sc:=g.sc
 N:=g.N
 nd:=g.nd
 pass:=lX hx
 cm:=g.cm
 room:=g.room
 un:=g.un
 tab:=g.tab
 fns:=g.fns
 xok:=λ_=>hx
 own:=ho
 stk:=g.stk
 fr:=g.fr
 fn:=g.fn
def Gs.bD (g:Gs X G S k E)(e:Value):Gs (X.bD e) { G with cm:=false } S k (λ_ _ _=>False) where
 hK:=g.hK
 hT:=g.hT
 sc:=g.sc
 N:=g.N
 nd:=g.nd
 pass:=λY U H s e s' I h=>by
  obtain ⟨e,H',C,dx,fs,T,_,_,_,_,_,_,_,_,_,q⟩:=h;exact q.elim
 cm:=λz=>by cases z
 room:=λz=>by cases z
 un:=g.un
 tab:=g.tab
 fns:=g.fns
 xok:=λz=>by cases z
 own:=PassesOwn.never
 stk:=g.stk
 fr:=g.fr
 fn:=g.fn
def jT (env:Env):∀ {is:List Nat}{ts:List Expr},xB S is ts=true->(assignEach ts env).length=is.length/\(assignEach ts env).findIdx? (·.1)=none
 | [],[],_=>⟨rfl,rfl⟩
 | [],_::_,h=>by simp[xB] at h
 |_::_,[],h=>by simp[xB] at h
 |i::is,t::ts,h=>by
  cases t<;>simp[xB] at h
  rename_i x p;obtain ⟨h1,h2⟩:=jT env h.2;have e:assignEach (.Name x p::ts) env=(false,assign (.Name x p) env)::assignEach ts env:=rfl;rw[e];refine ⟨by simp[h1],?_⟩;rw[List.findIdx?_cons];simp[h2]
def nB (g:Gs X G S k E):∀ {is:List Nat}{ts:List Expr},xB S is ts=true->E7 X ts (gl is)
 | [],[],_=>λY s U H vs us Q I r h=>nv Y s U H vs us Q I r ⟨length_eq_zero_iff.mp h.1,by
   have:=h.2;have e:vs=[]:=length_eq_zero_iff.mp h.1;subst e;exact this⟩
 | [],_::_,h=>by simp[xB] at h
 |_::_,[],h=>by simp[xB] at h
 |i::is,t::ts,h=>by
  cases t<;>simp[xB] at h
  rename_i x p;obtain ⟨hi,hx⟩:=g.loc h.1;have h1:PG X (.Name x p) (gX i):=gx (by rw[g.N];exact g.nd) hi hx (.inl (g.fn x));have h2:=nB g h.2;intro Y s U H vs us Q I r q;refine gG h1 h2 rfl Y s U H vs us Q I r ?_;obtain ⟨hl,q⟩:=q;cases vs with
  |nil=>simp at hl
  |cons v vs=>exact ⟨v,vs,rfl,by simpa using hl,q⟩
def EV (g:Gs X G S k E)(hc:G.cm=true){t:KI}(h:KY S t e=true):PG X e (λv U H Q=>wG U t G.R.K v H λσ1=>Q σ1 H):=by
 cases t with
 |nm i=>
  conv at h=>lhs;whnf
  split at h
  ·obtain ⟨hi,hx⟩:=g.loc h;exact gx (by rw[g.N];exact g.nd) hi hx (.inl (g.fn _))
  ·cases h
 |tp is=>
  conv at h=>lhs;whnf
  split at h
  ·intro Y s U H v u Q I r q;obtain ⟨a,xs,rfl,hq,hl,q⟩:=q;obtain ⟨e1,e2⟩:=jT X.env h;rw[g.hK] at hq;rcases hq with hq|hq
   ·exact oO (g.cm hc) (nB g h) e1 e2 Y s U H _ u Q I r ⟨a,xs,rfl,hq,hl,hl,q⟩
   ·exact Gr (g.cm hc) (nB g h) e1 e2 I r hq hl ⟨hl,q⟩
  ·cases h
 |nt i is=>
  conv at h=>lhs;whnf
  split at h
  ·split at h
   ·split at h
    ·split at h
     ·intro Y s U H v u Q I r q;simp only[mo] at h;obtain ⟨a,y,b,ys,rfl,hq,hb,hl,q⟩:=q;obtain ⟨e1,e2⟩:=jT X.env h.2;obtain ⟨hi,hx⟩:=g.loc h.1;rw[g.hK] at hq hb;refine oO (n:=2) (g.cm hc) (gG (gx (by rw[g.N];exact g.nd) hi hx (.inl (g.fn _))) (gG (oO (g.cm hc) (nB g h.2) e1 e2) nv rfl) rfl) rfl rfl Y s U H _ u Q I r ⟨a,_,rfl,hq,rfl,y,_,rfl,.ref b,_,rfl,b,ys,rfl,hb,hl,hl,rfl,q⟩
     ·cases h
    ·cases h
   ·cases h
  ·cases h
def eU {kk:Nat}(n:Nat)(env:Env):swapsWithSole [.Tuple ts kk p] e n env=pure false:=by
 cases e<;>rfl
def wJ {o i:Expr}(n:Nat)(env:Env):swapsWithSole [.Subscript o i p] e n env=pure false:=by
 cases e<;>rfl
def xh {o:Expr}{f:Str}(n:Nat)(env:Env):swapsWith e (some (.Attribute o f p)) n env=pure false:=by
 cases e<;>rfl
def sh {kk:Nat}(env:Env)(h:Ed e=true):swappedStores [.Tuple ts kk p] e env=pure none:=by
 cases e<;>first|rfl|cases h
def tK {o i:Expr}(env:Env):swappedStores [.Subscript o i p] e env=pure none:=by
 cases e<;>rfl
def rJ {o i:Expr}{pos:Pos}{env:Env}(h:fv i=true):∀ v,assign (.Subscript o i pos) env v=(do
   let ov <-holding [v] (eval o env)
   let iv <-holding [v,ov] (eval i env)
   standAt pos
   holding [v,ov,iv] (setItem ov iv v)
   release [v,ov,iv] []):=by
 intro v;cases i<;>first|rfl|cases h
def DH {i:Expr}(h:fv i=true):∀ ov iv new,augStore i ov iv new=(do holding [new,ov,iv] (setItem ov iv new);release [new,ov,iv] [];pure .next):=by
 intro ov iv new;cases i<;>first|rfl|cases h
def IG (op:Operator):Ku X op (LI op):=by
 intro Y s U H x y v u Q I r1 r2 h;unfold LI at h
 split at h
 ·exact GX Y s U H _ _ v u Q I r1 r2 ⟨_,_,rfl,rfl,h⟩
 ·exact Fc Y s U H _ _ v u Q I r1 r2 ⟨_,_,rfl,rfl,h⟩
 ·exact h.elim
def Gk (g:Gd X G S k E):He X (AV G.R.K):=by
 intro Y s U H x y v u Q I r1 r2 h;unfold AV at h;rw[g.hK] at h
 split at h
 ·obtain ⟨xs,w,h1,h2,h3,q⟩:=h;exact zh Y s U H _ _ v u Q I r1 r2 ⟨_,xs,_,w,rfl,rfl,h1,h2,h3,q⟩
 ·exact h.elim
def tL {py:Pos}{y:Str}{n:Nat}{env:Env}(hk:env.scope.kind=.function):∃ b,swapsWith (.ListComp elt gs scope p) (some (.Name y py)) n env=pure b/\(b=true->env.scope.names.lookup y=some .local):=by
 refine ⟨_,rfl,λh=>?_⟩;simp only[mo] at h;have:=h.1.1.2;exact beq_iff_eq.mp this
end
set_option maxHeartbeats 2000000
variable {S:Sn}{α:Type}
section
variable {k:Nat}
def JL {x:Ex}(h:mE S x (.ListComp elt gs scope p)=true):(∃ e' sel it y py iter,x=.lc e' sel it/\gs=[⟨.Name y py,iter,[],0⟩]/\
  eY S scope [y] sel=true/\mI S it (.Name y py) iter=true/\mE { S with sc:=cR S.sc scope,N:=y::sel.filterMap λi=>S.N[i]? } e' elt=true/\cP iter=true)\/
  (∃ e' c sel it y py iter c',x=.lci e' c sel it/\gs=[⟨.Name y py,iter,[c'],0⟩]/\
  eY S scope [y] sel=true/\mI S it (.Name y py) iter=true/\mE { S with sc:=cR S.sc scope,N:=y::sel.filterMap λi=>S.N[i]? } e' elt=true/\mT { S with sc:=cR S.sc scope,N:=y::sel.filterMap λi=>S.N[i]? } c c'=true/\cP iter=true)\/
  ∃ e' n sel it ts kt pt iter,x=.lct e' n sel it/\gs=[⟨.Tuple ts kt pt,iter,[],0⟩]/\
  eY S scope (Dm ts) sel=true/\xy { S with sc:=cR S.sc scope,N:=Dm ts++sel.filterMap λi=>S.N[i]? } (List.range n) ts=true/\(Dm ts).length=n/\mI S it (.Tuple ts kt pt) iter=true/\mE { S with sc:=cR S.sc scope,N:=Dm ts++sel.filterMap λi=>S.N[i]? } e' elt=true/\cP iter=true:=by
 cases x<;>(try (cases (show false=true from h);done))
 all_goals (conv at h=>lhs;whnf)
 all_goals (iterate 5 (split at h<;>first|(cases h;done)|skip))
 all_goals (simp only[mo,decide_eq_true_eq] at h)
 all_goals first
  |exact .inl ⟨_,_,_,_,_,_,rfl,rfl,h.1.1.1,h.1.1.2,h.1.2,h.2⟩
  |exact .inr (.inl ⟨_,_,_,_,_,_,_,_,rfl,rfl,h.1.1.1.1,h.1.1.1.2,h.1.1.2,h.1.2,h.2⟩)
  |exact .inr (.inr ⟨_,_,_,_,_,_,_,_,rfl,rfl,h.1.1.1.1.1,h.1.1.1.1.2,h.1.1.1.2,h.1.1.2,h.1.2,h.2⟩)
def rY (e:Expr){x:Ex}(h:mE S x e=true):tO e=true\/∃ elt gs scope p,e=.ListComp elt gs scope p:=by
 cases e<;>first|exact .inl rfl|exact .inr ⟨_,_,_,_,rfl⟩|(cases x<;>cases (show false=true from h))
def JC {G:Gx}{X:Cx}{E:St->XK}(g:Gs X G S k E){i:Nat}{x:Str}{e:Ex}{e':Expr}{px:Pos}(hx:S.loc i x=true)(h:mE S e e'=true):PS X (.Assign [.Name x px] e' p) (λD U H=>wS (.asg i e) G D E U H):=by
 obtain ⟨hi,hl⟩:=g.loc hx;have hN:X.N.Nodup:=by rw[g.N];exact g.nd
 rcases rY e' h with hn|⟨elt,gs,scope,pp,rfl⟩
 ·exact xP hN hi hl (sE e g.toGd h) (gS hn _ _ _) (.inl (g.fn x))
 ·intro Y s U H D I q;obtain ⟨b,hb,hb2⟩:=tL (elt:=elt) (gs:=gs) (scope:=scope) (p:=pp) (py:=px) (y:=x) (n:=p.line) (env:=X.env) I.ok.kind;cases b with
  |false=>exact xP hN hi hl (sE e g.toGd h) hb (.inl (g.fn x)) Y s U H D I q
  |true=>
   rcases JL h with ⟨e2,sel,it,y,py,iter,rfl,rfl,h1,h2,h3,h4⟩|⟨e2,c,sel,it,y,py,iter,c',rfl,rfl,h1,h2,h3,h5,h4⟩|⟨e2,n,sel,it,ts,kt,pt,iter,rfl,rfl,h1,h5,h6,h2,h3,h4⟩
   ·obtain ⟨hc,q⟩:=(show G.cm=true/\wI G it U H (λJ H1=>wa (λσ' H' Q'=>wE G e2 σ' H' Q' (λ_ _=>False)) J (none::fD U sel) H1 (λx H1=>D.nx (U.set i (some x)) H1)) (E U) from q);rw[Ap] at q;obtain ⟨cl,C⟩:=bR g.toGd I.ok h1;exact xf (g.cm hc) C (sI it g.toGd h2) (λs H fp=>sE e2 (g.toGd.comp C s H fp) h3) (bz h4 _) hN hi (hb2 rfl) hb Y s U H D I q
   ·obtain ⟨hc,q⟩:=(show G.cm=true/\wI G it U H (λJ H1=>Fz (λσ' H' Q'=>wT G c σ' H' Q' (λ_ _=>False)) (λσ' H' Q'=>wE G e2 σ' H' Q' (λ_ _=>False)) J (none::fD U sel) H1 (λx H1=>D.nx (U.set i (some x)) H1)) (E U) from q);rw[xT] at q;obtain ⟨cl,C⟩:=bR g.toGd I.ok h1;exact gd (g.cm hc) C (sI it g.toGd h2) (λs H fp=>nS C) (λs H fp=>t9 (sT c (g.toGd.comp C s H fp) h5)) (λs H fp=>sE e2 (g.toGd.comp C s H fp) h3) (bz h4 _) hN hi (hb2 rfl) hb Y s U H D I q
   ·obtain ⟨hc,q⟩:=(show G.cm=true/\wI G it U H (λJ H1=>LCt G.R.K n (λσ' H' Q'=>wE G e2 σ' H' Q' (λ_ _=>False)) J (sw n none++fD U sel) H1 (λx H1=>D.nx (U.set i (some x)) H1)) (E U) from q);rw[yr,<-vw h6] at q;obtain ⟨cl,C⟩:=bR g.toGd I.ok h1;exact gd (g.cm hc) C (sI it g.toGd h2) (λs H fp=>uk (g.toGd.comp C s H fp) hc h5) (λs H fp=>jJ) (λs H fp=>sE e2 (g.toGd.comp C s H fp) h3) (bz h4 _) hN hi (hb2 rfl) hb Y s U H D I q
def Bo {xs:List α}{i j:Nat}(h:xs.length=[i,j].length):∃ a b,xs=[a,b]:=by
 match xs,h with
 | [a,b],_=>exact ⟨a,b,rfl⟩
def wD {xs:List α}{i j l:Nat}(h:xs.length=[i,j,l].length):∃ a b c,xs=[a,b,c]:=by
 match xs,h with
 | [a,b,c],_=>exact ⟨a,b,c,rfl⟩
mutual
theorem sS:∀ (x:Sx){G:Gx}{X:Cx}{S:Sn}{E:St->XK},Gs X G S k E->∀ {st:Stmt},mS S x st=true->PS X st (λD U H=>wS x G D E U H)
 | .asg i e,G,X,S,E,g,st,h=>by
  sleep 3
  simp only[mo] at h;exact JC g h.1 h.2
 | .asgT is e,G,X,S,E,g,st,h=>by
  sleep 3
  simp only[mo] at h;obtain ⟨⟨h1,h2⟩,h3⟩:=h;intro Y s U H D I q;obtain ⟨hc,q⟩:=(show G.cm=true/\wE G e U H (λx H1=>wG U (.tp is) G.R.K x H1 λσ1=>D.nx σ1 H1) (E U) from q);exact yh (sE e g.toGd h2) (EV g hc (t:=.tp is) (by simp only[KY];exact h1)) (eU _ _) (sh _ h3) rfl Y s U H D I q
 | .par is es,G,X,S,E,g,st,h=>by
  sleep 4
  rename_i pos _ _ ts kt pt _ vs k2 p2;simp only[mo] at h;obtain ⟨⟨h1,h2⟩,h3⟩:=h;intro Y s U H D I q;obtain ⟨hc,q⟩:=(show G.cm=true/\wEs G es U H (λxs H1=>xs.length=is.length/\D.nx (wU U is xs) H1) (E U) from q);have hN:X.N.Nodup:=by rw[g.N];exact g.nd
  rw[<-g.sc] at h3;unfold Iw at h1
  split at h1
  ·iterate 3 (split at h1;rotate_left;cases h1)
   rename_i i j _ _ x px _ y py;simp only[Sn.sC,mo,decide_eq_true_eq] at h1;obtain ⟨⟨a1,a2⟩,⟨b1,b2⟩,c1⟩:=h1;rw[filterMap_cons,a1,filterMap_cons,b1,List.filterMap_nil] at h3;obtain ⟨v1,v2,rfl⟩:=CP h3;rw[<-g.N] at a1 b1;rw[<-g.sc] at a2 b2;exact CT (g.cm hc) hN a1 b1 c1 a2 b2 (PA.bL (uY es g.toGd h2)) (Ai h3) (eU _ _) Y s U H D I ⟨_,q,λxs H1 z=>by
    obtain ⟨z1,z2⟩:=z;obtain ⟨u1,u2,rfl⟩:=Bo z1;exact ⟨u1,u2,rfl,z2⟩⟩
  ·iterate 4 (split at h1;rotate_left;cases h1)
   rename_i i j l _ _ x px _ y py _ z pz;simp only[Sn.sC,mo,decide_eq_true_eq] at h1;obtain ⟨⟨a1,a2⟩,⟨b1,b2⟩,⟨d1,d2⟩,c1,c2,c3⟩:=h1;rw[filterMap_cons,a1,filterMap_cons,b1,filterMap_cons,d1,List.filterMap_nil] at h3;obtain ⟨v1,v2,v3,rfl⟩:=wm h3;rw[<-g.N] at a1 b1 d1;rw[<-g.sc] at a2 b2 d2;exact BZ (g.cm hc) hN a1 b1 d1 c1 c2 c3 a2 b2 d2 (PA.bL (uY es g.toGd h2)) (Ai h3) (eU _ _) Y s U H D I ⟨_,q,λxs H1 z=>by
    obtain ⟨z1,z2⟩:=z;obtain ⟨u1,u2,u3,rfl⟩:=wD z1;exact ⟨u1,u2,u3,rfl,z2⟩⟩
  ·cases h1
 | .sub o i v,G,X,S,E,g,st,h=>by
  sleep 3
  simp only[mo] at h;obtain ⟨⟨⟨h1,h2⟩,h3⟩,h4⟩:=h;exact yh (sE v g.toGd h3) (FW (sE o g.toGd h1) (sE i g.toGd h2) (uV g.un) (rJ h4)) (wJ _ _) (tK _) rfl
 | .fld o f v,G,X,S,E,g,st,h=>by
  sleep 3
  simp only[mo,decide_eq_true_eq] at h;obtain ⟨⟨h1,rfl⟩,h3⟩:=h;intro Y s U H D I q;have q':wE G v U H (λy H1=>wE G o U H1 (λx H2=>Ct G f x y H2 (λH3=>D.nx U H3)) (E U)) (E U):=q;refine plainObj_wpAny_Assign_Attribute (ax (sE v g.toGd h3 Y s U H _ I q') λu s1 ⟨y,H1,I1,ry,q⟩=>ax (sE o g.toGd h1 Y s1 U H1 _ I1 q) λov s2 ⟨x,H2,I2,rx,q2⟩=>?_) (xh _ _);unfold Ct at q2;obtain ⟨a,i,rfl,hna,q2⟩:=q2;obtain rfl:ov=Value.ref a:=rx;have n:=g.tab.na i f hna;rcases q2 with ⟨dx,fs,ho,ea,l,q2⟩|⟨d,fs,fr,ho,ea,l,q2⟩|⟨fr,ho,ea,q2⟩
  ·exact sL I2 ea (g.tab.oc i ho).1 n l ry λs3 I3=>⟨U,_,I3,q2⟩
  ·exact tQ I2 ea (g.tab.xc i ho).1 n l ry λs3 I3=>⟨U,_,I3,q2⟩
  ·exact rP I2 ea (g.tab.xc i ho).1 n ry λd s3 hd I3=>⟨U,_,I3,q2 d hd⟩
 | .aug i op e,G,X,S,E,g,st,h=>by cases (show false=true from h)
 | .augS o i op e,G,X,S,E,g,st,h=>by
  sleep 2
  simp only[mo,decide_eq_true_eq] at h;obtain ⟨⟨⟨⟨h1,h2⟩,rfl⟩,h3⟩,h4⟩:=h;exact BF (sE o g.toGd h1) (sE i g.toGd h2) (Gk g.toGd) (sE e g.toGd h3) (IG op) (uV g.un) (DH h4)
 | .ret e,G,X,S,E,g,st,h=>by
  sleep 2
  exact Hl (sE e g.toGd h)
 | .retN,G,X,S,E,g,st,h=>by cases (show false=true from h)
 | .pass,G,X,S,E,g,st,h=>by cases (show false=true from h)
 | .brk,G,X,S,E,g,st,h=>by cases (show false=true from h)
 | .cont,G,X,S,E,g,st,h=>by cases (show false=true from h)
 | .expr e,G,X,S,E,g,st,h=>by
  sleep 1
  simp only[mo] at h;exact By (sE e g.toGd h.1) (gS h.2 _ _ _)
 | .ife c a b,G,X,S,E,g,st,h=>by
  sleep 1
  simp only[mo] at h;exact PS.imp (Jb (PT.bL (sT c g.toGd h.1.1)) (sB a g h.1.2) (sB b g h.2)) λD U H q=>⟨_,q,λk H1 z=>by rwa [dG] at z⟩
 | .whl c b,G,X,S,E,g,st,h=>by
  sleep 2
  simp only[mo] at h;refine PS.imp (Aq g.own (PT.bL (sT c g.toGd h.1)) (sB b g h.2)) λD U H q=>?_
  obtain ⟨W,w0,w1⟩:=q;exact ⟨W,w0,λm U H w=>⟨_,w1 m U H w,λk H1 z=>by rwa [dG] at z⟩⟩
 | .for t it b,G,X,S,E,g,st,h=>by
  sleep 2
  simp only[mo] at h;obtain ⟨⟨⟨h1,h2⟩,h3⟩,h4⟩:=h;intro Y s U H D I q
  conv at q=>whnf
  obtain ⟨hc,q⟩:=q;unfold fz at q;exact F5 g.own (g.cm hc) (sI it g.toGd h2) (EV g hc h1) (sB b g h3) (bz h4 _) Y s U H D I q
 | .rais e,G,X,S,E,g,st,h=>by
  sleep 3
  intro Y s U H D I q
  conv at q=>whnf
  obtain ⟨hc,q⟩:=q;refine AH (g.xok hc) (g.cm hc) (PE.bL (sE e g.toGd h)) Y s U H D I ⟨_,q,λv H1 z=>?_⟩;obtain ⟨a,i,dx,fs,ev,ea,hi,q⟩:=z;exact ⟨a,_,dx,fs,ev,ea,(g.tab.xc i hi).1,q⟩
 | .tryx b hs,G,X,S,E,g,st,h=>by
  sleep 4
  simp only[mo] at h;intro Y s U H D I q;obtain ⟨hc,q⟩:=(show G.cm=true/\wB b G D (λσ' e H'=>wH hs G D σ' e H') U H from q);refine Ft (E':=λσ' e H'=>wH hs G D σ' e H') I g.stk g.fr (λxe hx ho=>?_) λσ' H' s' e C dx fs T J he hT hH hp st q'=>?_
  ·exact sB b (g.fZ hx ho) h.1 [] s U H D (I.fZ xe) q
  ·exact sH hs g h.2 J he hT hH hp st q'
theorem sB:∀ (x:mM){G:Gx}{X:Cx}{S:Sn}{E:St->XK},Gs X G S k E->∀ {st:List Stmt},mB S x st=true->Cg X st (λD U H=>wB x G D E U H)
 | .nil,G,X,S,E,g,[],h=>CI
 | .nil,G,X,S,E,g,_::_,h=>by cases (show false=true from h)
 | .cons x xs,G,X,S,E,g,[],h=>by cases (show false=true from h)
 | .cons x xs,G,X,S,E,g,st::sts,h=>by
  have h:(mS S x st&&mB S xs sts)=true:=h;simp only[mo] at h;exact ya (sS x g h.1) (sB xs g h.2)
theorem sH:∀ (x:A4){G:Gx}{X:Cx}{S:Sn}{E:St->XK},Gs X G S k E->∀ {hs:List ExceptHandler},mH S x hs=true->∀ {Y:M7}{U:St}{H:Hp}{s:Shared}{e C:Addr}{dx:Option Addr}{fs:List (Str×V)}{T:Addr}{D:Ends},
  L2.Inv X Y U H s->H e=some (.exc C dx fs false)->X.s₀.heap.objs.size<=T->H T=none->(∀ p ∈ X.pn++Y,p.1≠T)->AX s.heap e T .none->wH x G D U e H->wpAny (model X.prog X.w) X.A (handleBy (.ref e) X.env hs) (SP X Y D) X.xe s
 | .nil,G,X,S,E,g,hs,h,Y,U,H,s,e,C,dx,fs,T,D,I,he,hT,hH,hp,st,q=>by
  simp only[wH] at q
 | .cons c i b hs,G,X,S,E,g,l,h,Y,U,H,s,e,C,dx,fs,T,D,I,he,hT,hH,hp,st,q=>by
  conv at h=>lhs;whnf
  split at h
  ·simp only[mo,decide_eq_true_eq] at h;obtain ⟨⟨⟨⟨⟨h1,h2⟩,h3⟩,h4⟩,h5⟩,h6⟩:=h;obtain ⟨hg,hdb⟩:=g.glob h1;have hm:=g.tab.gcl _ _ (g.hT▸h2);obtain ⟨j,dx',fs',kk,he',hxc,hsub,q⟩:=(show ∃ j dx fs k,H e=some (.exc (G.R.cad j) dx fs false)/\G.T.xc.contains j=true/\G.T.sub.lookup (j,c)=some k/\_ from q);have ee:=he.symm.trans he'
   injection ee with ee
   injection ee with e1 e2 e3 e4
   subst e1;obtain ⟨_,hs2⟩:=g.tab.sub j c kk hsub;obtain ⟨hs3,hs4⟩:=hs2 hxc;refine rD (i:=i) I he hT hH hp st (g.tab.xc j hxc).1 hs4 hs3 hg hm (by rw[g.N];exact g.nd) (by rw[g.N];exact h3) (by rw[g.sc];exact h4) hdb (λhk s2 J=>?_) λhk=>?_
   ·rw[hk] at q;unfold jj at q;exact sB b (g.bD (.ref e)) h5 Y s2 _ H _ J q
   ·rw[hk] at q;unfold jj at q;exact sH hs g h6 I he hT hH hp st q
  ·cases h
end
end
abbrev cW (T:Tab)(R:Rt):Nat->Nat->Sp
 |0,_=>λ_ _ _ _=>False
 |k+1,f=>λvs H Q E=>match T.fns[f]? with
  |some d=>vs.length=d.ps.length/\wB d.body ⟨T,R,cW T R k,true⟩ { nx:=λ_ H'=>Q .non H',rt:=Q } (λ_=>E) (start d.N vs) H
  |none=>False
structure we (K:W.Frag) (T:Tab) (f:Addr) (d:ao):Prop where
 ex:∃ (name qual:Str) (params:Arguments) (body:List Stmt) (scope:Scope) (dV kV doc pm cdv ct oc:Value) (od an:Option Addr) (osl:Array (Option Value)),
  K.lookup f=some ⟨oc,od,.func (W.fnOf name qual params body scope dV kV doc pm an cdv ct),osl⟩/\W.codeIn K cdv qual=true/\jM d.N d.ps scope/\mB ⟨T,scope,d.N⟩ d.body body=true/\
  ∀ j,∃ ds,Binds K (W.fnOf name qual params body scope dV kV doc pm an cdv ct) d.ps ds/\Vals (d.dfl.drop j) ds
def zx {P:Program}{w:World}{K:W.Frag}{mg:M8}{base:Heap}{T:Tab}{R:Rt}(tab:BX K mg T R)(hK:R.K=K)(fs:∀ f d,T.fns[f]? =some d->we K T (R.fad f) d):
  ∀ (k f:Nat) (d:ao),T.fns[f]? =some d->zy P w K mg base (2*k) (R.fad f) d (cW T R k f)
 |0,f,d,hd=>by
  obtain ⟨name,qual,params,body,scope,dV,kV,doc,pm,cdv,ct,oc,od,an,osl,lk,hcd,S,hm,hb⟩:=(fs f d hd).ex;exact ⟨⟨_,⟨λ_ _ _ _ h=>h.elim,λ_ _ _ _ _ _ _ _ _ _ _ _ _ h=>h.elim⟩,hb⟩,λ_ _ _ _ _=>⟨λ_ _ _ _ h=>h.elim,λ_ _ _ _ _ _ _ _ _ _ _ _ _ h=>h.elim⟩⟩
 |k+1,f,d,hd=>by
  obtain ⟨name,qual,params,body,scope,dV,kV,doc,pm,cdv,ct,oc,od,an,osl,lk,hcd,S,hm,hb⟩:=(fs f d hd).ex;have F:=Jv (P:=P) (w:=w) (mg:=mg) (base:=base) (CX:=yy P w) (k:=2*k+1) (sp:=cW T R (k+1) f) lk hcd S (λvs H Q E h=>?_) (λA outer s H vs Q E hr h=>?_)
  ·refine ⟨⟨_,F,hb⟩,λfd oc' od' osl' lk'=>?_⟩;have e:=lk.symm.trans lk'
   injection e with e
   injection e with e1 e2 e3 e4
   injection e3 with e3
   subst e3;exact F
  ·simp only[cW,hd] at h;exact h.1
  ·simp only[cW,hd] at h;refine ⟨λD U H=>wB d.body ⟨T,R,cW T R k,true⟩ D (λ_=>E) U H,?_,h.2⟩;have hx:=wX (P:=P) (w:=w) (K:=K) (mg:=mg) (base:=base) (N:=d.N) (qual:=qual) (scope:=scope) (f:=R.fad f) (cd:=cdv) (A:=A) (outer:=outer) (E:=E) (s:=s) (H:=H);refine sB (k:=2*k) d.body (G:=⟨T,R,cW T R k,true⟩) (S:=⟨T,scope,d.N⟩) { hK:=hK,hT:=rfl,sc:=rfl,N:=rfl,nd:=S.nd,pass:=lX hx,cm:=λ_=>rfl,room:=λ_=>hr,un:= ?_,tab:=tab,fns:=λf' d' hd'=>zx tab hK fs k f' d' hd',xok:=λ_=>hx,own:=PassesOwn.leaving,stk:=rfl,fr:=rfl,fn:=λ_=>rfl } hm;have:=hr.un;show (A.deeper _).units+200<cLine
   omega
abbrev ji (K:W.Frag)(n:Nat):Sp:=λvs H Q _=>∃ (a:Addr) (ns:List Int),vs=[.ref a]/\bc K H a (ns.map V.int)/\ns.length<=n/\∀ H',Q (.bl true) H'
variable {P:Program}
def zP {w:World}{H:Hp}{s:Shared}{e:Value}{s':Shared}(h:yy P w [] H s (λ_ _=>False) e s'):False:=by
 obtain ⟨e,H',C,dx,fs,T,_,_,_,_,_,_,_,_,_,q⟩:=h;exact q
variable {K:W.Frag}{fd:FuncData}{ps:List Str}
def Ho (h:Binds K fd ps []):∀ j:Nat,∃ ds,Binds K fd ps ds/\Vals (([]:List V).drop j) ds:=λj=>⟨[],h,by simp;exact .nil⟩
def Bb {ds:List Value}{T:Addr}{o:Obj}{items:Array Value}{c n:Nat}(hd:fd.defaults=.ref T)(ho:K.lookup T=some o)(hs:o.data=.seq items c)(hn:n+ds.length=ps.length)
  (h:∀ us:List Value,us.length=n->∃ k:Option (Array Value)->Sem (List (Str×Value)),bindArgs fd ⟨us,[]⟩=seqItems? fd.defaults >>= k/\k (some items)=pure (ps.zip (us++ds))):Binds K fd ps ds:=λs us X hl=>by
 obtain ⟨k,h1,h2⟩:=h us (by rw[cr] at hl;omega);exact W.binds_K X hd ho hs h1 h2
def mF:∀ {vs:List V}{us:List Value}(j:Nat),Vals vs us->Vals (vs.drop j) (us.drop j)
 |_,_,0,h=>h
 |_,_,j+1,.nil=>by simp;exact .nil
 |_::_,_::_,j+1,.cons _ h=>by simpa using mF j h
def rW {α β:Type} [BEq α] [LawfulBEq α] {x:α}{y:β}:∀ {l:List (α×β)},l.lookup x=some y->(x,y) ∈ l
 | [],h=>by simp at h
 |(a,b)::l,h=>by
  rw[lookup_cons] at h;cases e:x ==a with
  |true=>
   rw[e] at h;have:=beq_iff_eq.mp e;subst this
   injection h with h
   subst h;exact lv
  |false=>
   rw[e] at h;exact dL _ (rW h)
def j0 {β:Type} [BEq α] [LawfulBEq α] {P:α->β->Prop}{l:List (α×β)}(h:∀ p ∈ l,P p.1 p.2):∀ x y,l.lookup x=some y->P x y:=λx y e=>h (x,y) (rW e)
def gw {β γ:Type} [BEq α] [LawfulBEq α] [BEq β] [LawfulBEq β] {P:α->β->γ->Prop}{l:List ((α×β)×γ)}(h:∀ p ∈ l,P p.1.1 p.1.2 p.2):∀ x y z,l.lookup (x,y)=some z->P x y z:=λx y z e=>h ((x,y),z) (rW e)
def iN  [BEq α] [LawfulBEq α] {P:α->Prop}{l:List α}(h:∀ p ∈ l,P p):∀ x,l.contains x=true->P x:=λx e=>h x (by simpa using e)
def Ds {β:Type} [BEq α] [LawfulBEq α] [BEq β] [LawfulBEq β] {P:α->β->Prop}{l:List (α×β)}(h:∀ p ∈ l,P p.1 p.2):∀ x y,l.contains (x,y)=true->P x y:=λx y e=>h (x,y) (by simpa using e)
abbrev uN (P:Nat->ao->Prop):Nat->List ao->Prop
 |_,[]=>True
 |n,d::r=>P n d/\uN P (n+1) r
def EF {P:Nat->ao->Prop}:∀ {l:List ao}{n:Nat},uN P n l->∀ f d,l[f]? =some d->P (n+f) d
 | [],_,_,f,d,e=>by simp at e
 |a::l,n,h,0,d,e=>by
  have:a=d:=by simpa using e
  subst this;exact h.1
 |a::l,n,h,f+1,d,e=>by
  have:=EF h.2 f d (by simpa using e)
  rwa [Nat.add_assoc,Nat.add_comm 1 f] at this
def sU {P:Nat->ao->Prop}{l:List ao}(h:uN P 0 l):∀ f d,l[f]? =some d->P f d:=λf d e=>by
 have:=EF h f d e
 rwa [Nat.zero_add] at this
def Fu {w:World}{mg:M8}{base:Heap}{T:Tab}{R:Rt}(tab:BX K mg T R)(hK:R.K=K)(fs:∀ f d,T.fns[f]? =some d->we K T (R.fad f) d) (k fl:Nat) (d:ao) (hd:T.fns[fl]? =some d)
  {oc:Value}{od:Option Addr}{osl:Array (Option Value)}(lk:K.lookup (R.fad fl)=some ⟨oc,od,.func fd,osl⟩) (h:∀ vs H Q E,ji K 63 vs H Q E->cW T R k fl vs H Q E):c9 P w K mg base (yy P w) (2*k) (R.fad fl) fd d.ps (ji K 63):=
 ((zx tab hK fs k fl d hd).own _ _ _ _ lk).imp h
end L3
namespace L3
open PySem L2
abbrev lr:HO->HO
 | .lst _=>.lst []
 | .dK _=>.dK []
 | .dT _=>.dT []
 | .ins C dx _=>.ins C dx []
 | .exc C _ _ _=>.exc C none [] false
 |o=>o
abbrev kd:HO->Option String
 | .lst _=>some "list"
 | .tup _=>some "tuple"
 | .dK _=>some "dict"
 |_=>none
def ua (o:HO):kd (lr o)=kd o:=by cases o<;>rfl
abbrev jx (H H':Hp):Prop:=∀ a o,H a=some o->∃ o',H' a=some o'/\lr o'=lr o
def jx.tup {H H':Hp}(g:jx H H'){t:Addr}{xs:List V}(h:H t=some (.tup xs)):H' t=some (.tup xs):=by
 obtain ⟨o',h1,h2⟩:=g t _ h;have key:∀ u:HO,lr u=.tup xs->u=.tup xs:=λu=>by cases u<;>intro e<;>first|exact e|cases e
 rw[key o' h2] at h1;exact h1
variable {H:Hp}{t:String}
def jx.ty {H':Hp}(g:jx H H'){v:V}(h:tyName v H=some t):tyName v H'=some t:=by
 cases v<;>try exact h
 rename_i a;have h':(match H a with|some (.lst _)=>some "list"|some (.tup _)=>some "tuple"|some (.dK _)=>some "dict"|_=>none)=some t:=h;show (match H' a with|some (.lst _)=>some "list"|some (.tup _)=>some "tuple"|some (.dK _)=>some "dict"|_=>none)=some t;cases e:H a with
 |none=>rw[e] at h';cases h'
 |some o=>
  rw[e] at h';obtain ⟨o',h1,h2⟩:=g a _ e;rw[h1];have key:kd o'=kd o:=by rw[<-ua o',<-ua o,h2]
  have k1:∀ u:HO,(match some u with|some (HO.lst _)=>some "list"|some (.tup _)=>some "tuple"|some (.dK _)=>some "dict"|_=>none)=kd u:=λu=>by cases u<;>rfl
  rw[k1] at h'⊢;rw[key];exact h'
variable {a:Addr}{xs:List V}
def E6 (e:H a=some (.lst xs)):tyName (.ref a) H=some "list":=by
 show (match H a with|some (.lst _)=>some "list"|some (.tup _)=>some "tuple"|some (.dK _)=>some "dict"|_=>none)=_;rw[e]
def BD (e:H a=some (.tup xs)):tyName (.ref a) H=some "tuple":=by
 show (match H a with|some (.lst _)=>some "list"|some (.tup _)=>some "tuple"|some (.dK _)=>some "dict"|_=>none)=_;rw[e]
def jx.upd {o o':HO}(h:H a=some o)(e:lr o'=lr o):jx H (L2.upd H a o'):=λb u hb=>by
 by_cases z:b=a
 ·subst z;rw[h] at hb;cases hb;exact ⟨o',av,e⟩
 ·exact ⟨u,(ag z).trans hb,rfl⟩
def jx.new {o':HO}(h:H a=none):jx H (L2.upd H a o'):=λb u hb=>⟨u,(ag λz=>by rw[z,h] at hb;cases hb).trans hb,rfl⟩
structure aq where
 p:Hp->(Addr->Prop)->Prop
 st:∀ H H' D,p H D->(∀ a,D a->H' a=H a)->jx H H'->p H' D
 up:∀ H D D',p H D->(∀ a,D a->D' a)->p H D'
abbrev pt (a:Addr)(o:HO):aq:=⟨λH D=>D a/\H a=some o,λH H' D h k _=>⟨h.1,(k a h.1).trans h.2⟩,λH D D' h k=>⟨k a h.1,h.2⟩⟩
abbrev tu (t:Addr)(xs:List V):aq:=⟨λH _=>H t=some (.tup xs),λH H' D h _ k=>k.tup h,λH D D' h _=>h⟩
abbrev tys (xs:List V):aq:=⟨λH _=>∀ x ∈ xs,∃ t,tyName x H=some t,λH H' D h _ k x hx=>let ⟨t,e⟩:=h x hx;⟨t,k.ty e⟩,λH D D' h _=>h⟩
abbrev pu (φ:Prop):aq:=⟨λ_ _=>φ,λ_ _ _ h _ _=>h,λ_ _ _ h _=>h⟩
variable {α:Type}
abbrev ex (f:α->aq):aq:=⟨λH D=>∃ x,(f x).p H D,λH H' D ⟨x,h⟩ k t=>⟨x,(f x).st H H' D h k t⟩,λH D D' ⟨x,h⟩ k=>⟨x,(f x).up H D D' h k⟩⟩
abbrev pk (A B:aq):aq:=⟨λH D=>∃ D1 D2:Addr->Prop,(∀ a,D1 a->D a)/\(∀ a,D2 a->D a)/\(∀ a,D1 a->D2 a->False)/\A.p H D1/\B.p H D2,
 λH H' D ⟨D1,D2,s1,s2,dj,h1,h2⟩ k t=>⟨D1,D2,s1,s2,dj,A.st H H' D1 h1 (λa z=>k a (s1 a z)) t,B.st H H' D2 h2 (λa z=>k a (s2 a z)) t⟩,
 λH D D' ⟨D1,D2,s1,s2,dj,h1,h2⟩ k=>⟨D1,D2,λa z=>k a (s1 a z),λa z=>k a (s2 a z),dj,h1,h2⟩⟩
abbrev bw:List aq->Hp->(Addr->Prop)->Prop
 | [],_,_=>True
 |A::O,H,D=>∃ D1 D2:Addr->Prop,(∀ a,D1 a->D a)/\(∀ a,D2 a->D a)/\(∀ a,D1 a->D2 a->False)/\A.p H D1/\bw O H D2
abbrev Sep (O:List aq)(H:Hp):Prop:=∃ D:Addr->Prop,(∀ a,D a->H a≠none)/\bw O H D
inductive af (A:aq):List aq->List aq->Prop where
 |e {O:List aq}:af A (A::O) O
 |t {B:aq}{O Γ':List aq}(h:af A O Γ'):af A (B::O) (B::Γ')
variable {g:List aq}
section
variable {A B:aq}{O Γ':List aq}{H H':Hp}{a b p t:Addr}{o o':HO}{xs:List V}{φ:Prop}
def bw.st:∀ {O:List aq}{H H':Hp}{D:Addr->Prop},bw O H D->(∀ a,D a->H' a=H a)->jx H H'->bw O H' D
 | [],_,_,_,_,_,_=>True.intro
 |A::O,H,H',D,⟨D1,D2,s1,s2,dj,h1,h2⟩,k,t=>⟨D1,D2,s1,s2,dj,A.st H H' D1 h1 (λa z=>k a (s1 a z)) t,bw.st h2 (λa z=>k a (s2 a z)) t⟩
def bw.up:∀ {O:List aq}{H:Hp}{D D':Addr->Prop},bw O H D->(∀ a,D a->D' a)->bw O H D'
 | [],_,_,_,_,_=>True.intro
 |A::O,H,D,D',⟨D1,D2,s1,s2,dj,h1,h2⟩,k=>⟨D1,D2,λa z=>k a (s1 a z),λa z=>k a (s2 a z),dj,h1,h2⟩
def Sep.nil:Sep [] H:=⟨λ_=>False,λ_ z=>z.elim,True.intro⟩
def bw.pull:∀ {O Γ':List aq}{D:Addr->Prop},af A O Γ'->bw O H D->bw (A::Γ') H D:=by
 intro O Γ' D h
 induction h generalizing D with
 |e=>exact λz=>z
 |t h ih=>
  rintro ⟨D1,D2,s1,s2,dj,h1,h2⟩;obtain ⟨E1,E2,t1,t2,ej,k1,k2⟩:=ih h2;refine ⟨E1,λa=>D1 a\/E2 a,λa z=>s2 a (t1 a z),λa z=>z.elim (s1 a) λz=>s2 a (t2 a z),λa z1 z2=>?_,k1,D1,E2,λa z=>.inl z,λa z=>.inr z,λa z1 z2=>dj a z1 (t2 a z2),h1,k2⟩;rcases z2 with z2|z2
  ·exact dj a z2 (t1 a z1)
  ·exact ej a z1 z2
def Sep.pull (h:af A O Γ')(s:Sep O H):Sep (A::Γ') H:=let ⟨D,k,z⟩:=s;⟨D,k,bw.pull h z⟩
def bw.push:∀ {O Γ':List aq}{D:Addr->Prop},af A O Γ'->bw (A::Γ') H D->bw O H D:=by
 intro O Γ' D h
 induction h generalizing D with
 |e=>exact λz=>z
 |t h ih=>
  rintro ⟨D1,D2,s1,s2,dj,h1,E1,E2,t1,t2,ej,k1,k2⟩;refine ⟨E1,λa=>D1 a\/E2 a,λa z=>s2 a (t1 a z),λa z=>z.elim (s1 a) λz=>s2 a (t2 a z),λa z1 z2=>?_,k1,ih ⟨D1,E2,λa z=>.inl z,λa z=>.inr z,λa z1 z2=>dj a z1 (t2 a z2),h1,k2⟩⟩;rcases z2 with z2|z2
  ·exact dj a z2 (t1 a z1)
  ·exact ej a z1 z2
def Sep.push (h:af A O Γ')(s:Sep (A::Γ') H):Sep O H:=let ⟨D,k,z⟩:=s;⟨D,k,bw.push h z⟩
def Sep.drop (s:Sep (A::O) H):Sep O H:=let ⟨D,k,D1,D2,s1,s2,dj,h1,h2⟩:=s;⟨D2,λa z=>k a (s2 a z),h2⟩
def Sep.at (s:Sep (pt a o::O) H):H a=some o:=let ⟨D,k,D1,D2,s1,s2,dj,h1,h2⟩:=s;h1.2
def Sep.atT (s:Sep (tu t xs::O) H):H t=some (.tup xs):=let ⟨D,k,D1,D2,s1,s2,dj,h1,h2⟩:=s;h1
def Sep.pure (s:Sep (pu φ::O) H):φ:=let ⟨D,k,D1,D2,s1,s2,dj,h1,h2⟩:=s;h1
def Sep.Az (h:φ)(s:Sep O H):Sep (pu φ::O) H:=let ⟨D,k,h2⟩:=s;⟨D,k,λ_=>False,D,λ_ z=>z.elim,λ_ z=>z,λ_ z _=>z,h,h2⟩
def Sep.Fo (h:H t=some (.tup xs))(s:Sep O H):Sep (tu t xs::O) H:=let ⟨D,k,h2⟩:=s;⟨D,k,λ_=>False,D,λ_ z=>z.elim,λ_ z=>z,λ_ z _=>z,h,h2⟩
def Sep.ne (s:Sep (pt a o::pt b o'::O) H):a≠b:=by
 obtain ⟨D,k,D1,D2,s1,s2,dj,h1,E1,E2,t1,t2,ej,k1,k2⟩:=s;rintro rfl;exact dj a h1.1 (t1 a k1.1)
def Sep.set (s:Sep (pt a o::O) H)(n:lr o'=lr o):Sep (pt a o'::O) (upd H a o'):=by
 obtain ⟨D,k,D1,D2,s1,s2,dj,h1,h2⟩:=s;refine ⟨D,λb z=>?_,D1,D2,s1,s2,dj,⟨h1.1,av⟩,bw.st h2 (λb z=>ag λe=>dj a h1.1 (e▸z)) (jx.upd h1.2 n)⟩
 by_cases e:b=a
 ·rw[e,av];exact λz=>by cases z
 ·rw[ag e];exact k b z
def Sep.new (s:Sep O H)(h:H p=none):Sep (pt p o::O) (upd H p o):=by
 obtain ⟨D,k,z⟩:=s;have ne:∀ b,D b->b≠p:=λb hb e=>k b hb (e▸h)
 refine ⟨λb=>b=p\/D b,λb hb=>?_,λb=>b=p,D,λb e=>.inl e,λb e=>.inr e,λb e z=>ne b z e,⟨rfl,av⟩,bw.st z (λb hb=>ag (ne b hb)) (jx.new h)⟩;rcases hb with rfl|hb
 ·rw[av];exact λz=>by cases z
 ·rw[ag (ne b hb)];exact k b hb
def Sep.iK (s:Sep O H)(h:H p=none):Sep (tu p xs::O) (upd H p (.tup xs)):=Sep.Fo av (Sep.drop (s.new (o:=.tup xs) h))
def Sep.toT (s:Sep (pt t (.tup xs)::O) H):Sep (tu t xs::O) H:=Sep.Fo s.at s.drop
def Sep.star:Sep (pk A B::O) H ↔ Sep (A::B::O) H:=by
 constructor
 ·rintro ⟨D,k,D1,D2,s1,s2,dj,⟨E1,E2,t1,t2,ej,k1,k2⟩,h2⟩;refine ⟨D,k,E1,λa=>E2 a\/D2 a,λa z=>s1 a (t1 a z),λa z=>z.elim (λz=>s1 a (t2 a z)) (s2 a),λa z1 z2=>?_,k1,E2,D2,λa z=>.inl z,λa z=>.inr z,λa z1 z2=>dj a (t2 a z1) z2,k2,h2⟩;rcases z2 with z2|z2
  ·exact ej a z1 z2
  ·exact dj a (t1 a z1) z2
 ·rintro ⟨D,k,D1,D2,s1,s2,dj,h1,E1,E2,t1,t2,ej,k1,k2⟩;refine ⟨D,k,λa=>D1 a\/E1 a,E2,λa z=>z.elim (s1 a) λz=>s2 a (t1 a z),λa z=>s2 a (t2 a z),λa z1 z2=>?_,⟨D1,E1,λa z=>.inl z,λa z=>.inr z,λa z1 z2=>dj a z1 (t1 a z2),h1,k1⟩,k2⟩;rcases z1 with z1|z1
  ·exact dj a z1 (t2 a z2)
  ·exact ej a z1 z2
def Sep.HR {f:α->aq}:Sep (ex f::O) H ↔ ∃ x,Sep (f x::O) H:=by
 constructor
 ·rintro ⟨D,k,D1,D2,s1,s2,dj,⟨x,h1⟩,h2⟩;exact ⟨x,D,k,D1,D2,s1,s2,dj,h1,h2⟩
 ·rintro ⟨x,D,k,D1,D2,s1,s2,dj,h1,h2⟩;exact ⟨D,k,D1,D2,s1,s2,dj,⟨x,h1⟩,h2⟩
def Sep.IY (s:Sep (tys xs::O) H):∀ x ∈ xs,∃ t,tyName x H=some t:=let ⟨D,k,D1,D2,s1,s2,dj,h1,h2⟩:=s;h1
def Sep.free (h:∀ D,A.p H D) (s:Sep O H):Sep (A::O) H:=let ⟨D,k,h2⟩:=s;⟨D,k,λ_=>False,D,λ_ z=>z.elim,λ_ z=>z,λ_ z _=>z,h _,h2⟩
def Sep.Jr (h:∀ x ∈ xs,∃ t,tyName x H=some t) (s:Sep O H):Sep (tys xs::O) H:=s.free λ_=>h
def Sep.get (s:Sep O H)(h:af (pt a o) O Γ'):H a=some o:=(s.pull h).at
def Sep.bT (s:Sep O H)(h:af (tu t xs) O Γ'):H t=some (.tup xs):=(s.pull h).atT
inductive aI (A B:aq):List aq->List aq->Prop where
 |e {O:List aq}:aI A B (A::O) (B::O)
 |t {C:aq}{O Γ':List aq}(h:aI A B O Γ'):aI A B (C::O) (C::Γ')
def af.k1 {b:aq}:af A (b::A::g) (b::g):=.t .e
def af.k2 {b c:aq}:af A (b::c::A::g) (b::c::g):=.t .k1
def af.k3 {b c d:aq}:af A (b::c::d::A::g) (b::c::d::g):=.t .k2
def af.j2 {b c:aq}{f:List aq}(h:af A g f):af A (b::c::g) (b::c::f):=.t (.t h)
def aI.k1 {b:aq}:aI A B (b::A::g) (b::B::g):=.t .e
def aI.k2 {b c:aq}:aI A B (b::c::A::g) (b::c::B::g):=.t .k1
def aI.k3 {b c d:aq}:aI A B (b::c::d::A::g) (b::c::d::B::g):=.t .k2
def aI.j2 {b c:aq}{f:List aq}(h:aI A B g f):aI A B (b::c::g) (b::c::f):=.t (.t h)
def aI.bG (h:aI A B O Γ'):∃ Δ,af A O Δ/\af B Γ' Δ:=by
 induction h with
 |e=>exact ⟨_,.e,.e⟩
 |t h ih=>
  obtain ⟨Δ,h1,h2⟩:=ih;exact ⟨_,.t h1,.t h2⟩
def Sep.put (s:Sep O H)(h:aI (pt a o) (pt a o') O Γ')(n:lr o'=lr o):Sep Γ' (upd H a o'):=by
 obtain ⟨Δ,h1,h2⟩:=h.bG;exact ((s.pull h1).set n).push h2
inductive Sub:List aq->List aq->Prop where
 |refl {O:List aq}:Sub O O
 |nil {O:List aq}:Sub [] O
 |cons {A:aq}{O Γ' Δ:List aq}(h:af A O Δ) (r:Sub Γ' Δ):Sub (A::Γ') O
 |drop {A:aq}{O Γ':List aq}(r:Sub Γ' O):Sub Γ' (A::O)
def bw.sub:∀ {O Γ':List aq}{D:Addr->Prop},Sub Γ' O->bw O H D->bw Γ' H D:=by
 intro O Γ' D h
 induction h generalizing D with
 |refl=>exact λz=>z
 |nil=>exact λ_=>True.intro
 |cons h r ih=>
  intro z;obtain ⟨D1,D2,s1,s2,dj,h1,h2⟩:=bw.pull h z;exact ⟨D1,D2,s1,s2,dj,h1,ih h2⟩
 |drop r ih=>
  rintro ⟨D1,D2,s1,s2,dj,h1,h2⟩;exact (ih h2).up s2
def Sep.sub (h:Sub Γ' O)(s:Sep O H):Sep Γ' H:=let ⟨D,k,z⟩:=s;⟨D,k,bw.sub h z⟩
end
@[irreducible] noncomputable def ab (T:Tab) (R:Rt) (k f:Nat):Sp:=cW T R k f
def qV:ab=cW:=by
 funext T R k f
 unfold ab
 rfl
variable {Q:VK}
def wc {T:Tab}{R:Rt}{k f:Nat}{d:ao}{vs:List V}{E:XK}(hk:0<k)(hd:T.fns[f]? =some d)(hl:vs.length=d.ps.length)
  (h:wB d.body ⟨T,R,ab T R (k-1),true⟩ { nx:=λ_ H'=>Q .non H',rt:=Q } (λ_=>E) (start d.N vs) H):ab T R k f vs H Q E:=by
 rw[qV] at h⊢;cases k with
 |zero=>exact absurd hk (by decide)
 |succ k=>
  show (match T.fns[f]? with|some d=>_|none=>False);rw[hd];exact ⟨hl,h⟩
variable {c:Bool}
def iw {A B:Prop}(h1:c=true->A)(h2:c=false->B):jj c A B:=by
 unfold jj;cases c
 ·exact h2 rfl
 ·exact h1 rfl
def aN {A B:Prop}(h:c=true)(h1:A):jj c A B:=by subst h;unfold jj;exact h1
def aw {A B:Prop}(h:c=false)(h1:B):jj c A B:=by subst h;unfold jj;exact h1
def Gp {A B:Prop}(h:jj c B A):jj (!c) A B:=by
 unfold jj at h⊢;cases c
 ·exact h
 ·exact h
def aA {p:Prop} [Decidable p] {A B:Prop}(h1:p->A)(h2:¬ p->B):jj (decide p) A B:=iw (λh=>h1 (of_decide_eq_true h)) λh=>h2 (of_decide_eq_false h)
def az {i j:Int}{A B:Prop}(h1:i=j->A)(h2:i≠j->B):jj (kQ (.int i) (.int j)) A B:=by
 show jj (i ==j) A B;exact iw (λh=>h1 (by simpa using h)) λh=>h2 (by simpa using h)
variable {dx:Addr}{n:Nat}{fs:List (Str×V)}{es:List V}{R:It->Hp->Prop}{fr:Bool}
section
variable {K:W.Frag}{G:Gx}{O Γ':List aq}{H:Hp}{Q:VK}{a p:Addr}{o:HO}{xs ys:List V}{v w:V}{i:Int}{f:Str}
def al (s:Sep O H)(h:∀ p H',Sep (pt p o::O) H'->Q (.ref p) H'):∀ p,H p=none->Q (.ref p) (upd H p o):=λp hp=>h p _ (s.new hp)
def jA {C x:Addr}(s:Sep O H)(h1:H x=none)(h2:H dx=none)(h3:dx≠x):Sep (pt x (.ins C dx [])::pt dx (.own x)::O) (upd (upd H dx (.own x)) x (.ins C dx [])):=(s.new h2).new (by rw[ag h3.symm];exact h1)
def eP {dx:Option Addr}{E:XK}(s:Sep O H)(r:aI (pt a (.exc (G.R.cad n) dx fs true)) (pt a (.exc (G.R.cad n) dx fs false)) O Γ')(ho:G.T.xc.contains n=true)(h:∀ H',Sep Γ' H'->E a H'):
  ∃ b i dx fs,V.ref a=.ref b/\H b=some (.exc (G.R.cad i) dx fs true)/\G.T.xc.contains i=true/\E b (upd H b (.exc (G.R.cad i) dx fs false)):=by
 obtain ⟨Δ,h1,h2⟩:=r.bG;exact ⟨a,n,dx,fs,rfl,s.get h1,ho,h _ (s.put r rfl)⟩
def MK (s:Sep O H)(h:∀ p H',Sep (tu p xs::O) H'->Q (.ref p) H'):∀ p,H p=none->Q (.ref p) (upd H p (.tup xs)):=λp hp=>h p _ (s.iK hp)
def iI (s:Sep O H)(hl:es.length<=10000)(h:∀ p H',Sep (pt p (.lst es)::O) H'->Q (.ref p) H'):BO es H Q:=by unfold BO;exact ⟨hl,al s h⟩
def aY (s:Sep O H)(hl:es.length<=10000)(h:∀ p H',Sep (pt p (.tup es)::O) H'->Q (.ref p) H'):iK es H Q:=by unfold iK;exact ⟨hl,al s h⟩
def gW {xs:List α}{j:Nat}{x:α}(h:xs[j]? =some x):j7 xs (0+(j:Int))=some x:=by rw[Int.zero_add];exact L2.dv h
def aJ (e:H a=some (.lst xs))(hv:j7 xs i=some v)(q:Q v H):qj K (.ref a) (.int i) H Q:=by unfold qj;exact .inl ⟨xs,i,v,rfl,.inl (bc.of e),hv,q⟩
def c7 (e:H a=some (.tup xs))(hv:j7 xs i=some v)(q:Q v H):qj K (.ref a) (.int i) H Q:=by unfold qj;exact .inl ⟨xs,i,v,rfl,.inr (aS.of e),hv,q⟩
def dO {R:Hp->Prop}{j:Nat}(s:Sep O H)(r:aI (pt a (.lst xs)) (pt a (.lst ys)) O Γ')(hj:vZ xs.length i=some j)(hx:xs.set j v=ys)(h:∀ H',Sep Γ' H'->R H'):gH (.ref a) (.int i) v H R:=by
 obtain ⟨Δ,h1,h2⟩:=r.bG;subst hx;unfold gH;exact .inl ⟨xs,i,j,rfl,s.get h1,hj,h _ (s.put r rfl)⟩
def Ja (e:H a=some (.lst xs))(h0:0<=i)(hv:xs[i.toNat]? =some v)(q:Q v H):AV K (.ref a) (.int i) H Q:=by unfold AV;exact ⟨xs,v,bc.of e,h0,hv,q⟩
def bY (e:H a=some (.ins (G.R.cad n) dx fs))(ho:G.T.oc.contains n=true)(hn:G.T.na.contains (n,f)=true)(hl:fs.lookup f=some v)(q:Q v H):rC G f (.ref a) H Q:=by unfold rC;exact ⟨a,n,fs,v,rfl,.inl ⟨ho,dx,e⟩,hn,hl,q⟩
def JG (e:H a=some (.exc (G.R.cad n) (some dx) fs fr))(ho:G.T.xc.contains n=true)(hn:G.T.na.contains (n,f)=true)(hl:fs.lookup f=some v)(q:Q v H):rC G f (.ref a) H Q:=by unfold rC;exact ⟨a,n,fs,v,rfl,.inr ⟨ho,dx,fr,e⟩,hn,hl,q⟩
def Lv {fs':List (Str×V)}{R:Hp->Prop}(s:Sep O H)(r:aI (pt a (.ins (G.R.cad n) dx fs)) (pt a (.ins (G.R.cad n) dx fs')) O Γ')(ho:G.T.oc.contains n=true)(hn:G.T.na.contains (n,f)=true)(hl:fs.length<1000)(hf:cM f v fs=fs')(h:∀ H',Sep Γ' H'->R H'):Ct G f (.ref a) v H R:=by
 obtain ⟨Δ,h1,h2⟩:=r.bG;subst hf;unfold Ct;exact ⟨a,n,rfl,hn,.inl ⟨dx,fs,ho,s.get h1,hl,h _ (s.put r rfl)⟩⟩
def J9 {d:Addr}{fs':List (Str×V)}{R:Hp->Prop}(s:Sep O H)(r:aI (pt a (.exc (G.R.cad n) (some d) fs fr)) (pt a (.exc (G.R.cad n) (some d) fs' fr)) O Γ')(ho:G.T.xc.contains n=true)(hn:G.T.na.contains (n,f)=true)(hl:fs.length<1000)(hf:cM f v fs=fs')(h:∀ H',Sep Γ' H'->R H'):Ct G f (.ref a) v H R:=by
 obtain ⟨Δ,h1,h2⟩:=r.bG;subst hf;unfold Ct;exact ⟨a,n,rfl,hn,.inr (.inl ⟨d,fs,fr,ho,s.get h1,hl,h _ (s.put r rfl)⟩)⟩
def uZ {R:Hp->Prop}(s:Sep (pt a (.exc (G.R.cad n) none [] fr)::O) H)(ho:G.T.xc.contains n=true)(hn:G.T.na.contains (n,f)=true)(h:∀ d H',Sep (pt a (.exc (G.R.cad n) (some d) [(f,v)] fr)::pt d (.own a)::O) H'->R H'):Ct G f (.ref a) v H R:=by
 unfold Ct;refine ⟨a,n,rfl,hn,.inr (.inr ⟨fr,ho,s.at,λd hd=>h d _ ?_⟩)⟩;exact ((s.new (o:=.own a) hd).pull (.t .e)).set rfl
def d4 {n:String}{b:Bool}(ht:tyName v H=some t)(hb:G.T.subB.lookup (t,n)=some b)(q:Q (.bl b) H):lq G (.ty n) v H Q:=by unfold lq;exact .inl ⟨t,b,ht,hb,q⟩
def Ie {j:Nat}{b:Bool}(e:H a=some (.ins (G.R.cad j) dx fs))(ho:G.T.oc.contains j=true)(hb:G.T.sub.lookup (j,n)=some b)(q:Q (.bl b) H):lq G (.own n) (.ref a) H Q:=by unfold lq;exact .inr ⟨a,j,b,rfl,.inl ⟨ho,dx,fs,e⟩,hb,q⟩
def aO (e:H a=some (.lst xs))(q:Q (.int xs.length) H):lJ G .len [.ref a] H Q:=by unfold lJ;exact ⟨_,xs.length,rfl,.inl ⟨xs,bc.of e,rfl⟩,q⟩
def tY (e:H a=some (.tup xs))(q:Q (.int xs.length) H):lJ G .len [.ref a] H Q:=by unfold lJ;exact ⟨_,xs.length,rfl,.inr ⟨xs,aS.of e,rfl⟩,q⟩
def so {j:Int}(hc:G.cm=true)(q:Q (.int (min i j)) H):lJ G .min [.int i,.int j] H Q:=by
 unfold lJ;refine ⟨hc,.inl ⟨i,j,rfl,?_⟩⟩;have e:(if j<i then j else i)=min i j:=by split<;>omega
 rw[e];exact q
def zv {j:Int}(hc:G.cm=true)(q:Q (.int (max i j)) H):lJ G .max [.int i,.int j] H Q:=by
 unfold lJ;refine ⟨hc,i,j,rfl,?_⟩;have e:(if j>i then j else i)=max i j:=by split<;>omega
 rw[e];exact q
def eX (h0:0<=i)(h1:i<n):vZ n i=some i.toNat:=by
 unfold vZ;rw[if_pos h0,if_pos h1]
def dw (s:Sep O H)(e:H a=some (.lst xs))(h:∀ p H',Sep (pt p (.lst xs)::O) H'->Q (.ref p) H'):lJ G .list [.ref a] H Q:=by unfold lJ;exact ⟨_,xs,rfl,.inl (bc.of e),al s h⟩
def Hr (s:Sep O H)(e:H a=some (.lst xs))(h:∀ p H',Sep (tu p xs::O) H'->Q (.ref p) H'):lJ G .tuple [.ref a] H Q:=by unfold lJ;exact ⟨_,xs,rfl,.inl ⟨bc.of e,MK s h⟩⟩
def kN (s:Sep O H){b:Addr}(e1:H a=some (.lst xs))(e2:H b=some (.lst ys))(hl:xs.length+ys.length<=100000)(h:∀ p H',Sep (pt p (.lst (xs++ys))::O) H'->Q (.ref p) H'):Bh K a b H Q:=by unfold Bh;exact .inl ⟨xs,ys,e1,e2,hl,al s h⟩
def Ej (s:Sep O H)(e:H a=some (.lst xs))(h1: -1000<=i)(h2:i<=1000)(h3:xs.length<=1000)(h:∀ p H',Sep (pt p (.lst (sw i.toNat xs).flatten)::O) H'->Q (.ref p) H'):BC K a i H Q:=by unfold BC;exact .inl ⟨xs,e,h1,h2,h3,al s h⟩
def vn {y:V}(s:Sep O H)(r:aI (pt a (.lst xs)) (pt a (.lst (xs++[y]))) O Γ')(hl:xs.length<=10000)(h:∀ H',Sep Γ' H'->Q .non H'):Fi .append a xs [y] H Q:=by unfold Fi;exact ⟨_,rfl,hl,h _ (s.put r rfl)⟩
def LZ {lo hi:Option Int}(s:Sep O H)(e:bc K H a xs)(h:∀ p H',Sep (pt p (.lst (gj xs lo hi))::O) H'->Q (.ref p) H'):Et K (.ref a) lo hi H Q:=by unfold Et;exact .inl ⟨xs,e,al s h⟩
def sN (e:H a=some (.lst xs))(h:R (BM K a) H):tH K a H R:=by unfold tH;exact .inl ⟨⟨xs,bc.of e⟩,h⟩
def Gh (e:H a=some (.lst xs))(h:R (Jq a) H):Cu a H R:=by unfold Cu;exact ⟨⟨xs,e⟩,h⟩
def K8 (e:aS K H a xs)(h:R (IX K a) H):CD K a H R:=by unfold CD;exact ⟨⟨xs,e⟩,h⟩
def LF {lo hi:Option Int}(s:Sep O H)(e:H a=some (.lst xs))(h:∀ p H',Sep (pt p (.lst (gj xs lo hi))::O) H'->Q (.ref p) H'):Et K (.ref a) lo hi H Q:=by unfold Et;exact .inl ⟨xs,bc.of e,al s h⟩
end
variable {x:V}
section
variable {K:W.Frag}{H:Hp}{Q:VK}
def kK (f:aU x=true):kQ x x=true:=by
 cases x<;>simp[aU] at f<;>simp[kQ]
def jI {y:V}(fx:aU x=true)(fy:aU y=true)(q:Q (.bl (kQ x y)) H):dC K false x y H Q:=by unfold dC;exact ⟨0,_,.flat fx fy,by decide,.inl fx,q⟩
def uS {y:V}(fx:aU x=true)(fy:aU y=true)(q:Q (.bl (!kQ x y)) H):dC K true x y H Q:=by unfold dC;exact ⟨0,_,.flat fx fy,by decide,.inl fx,q⟩
def sG {b:Addr}(h:eO K H n (.ref a) (.ref b) c)(hn:n<=100)(ne:a≠b)(q:Q (.bl c) H):dC K false (.ref a) (.ref b) H Q:=by unfold dC;exact ⟨n,c,h,hn,.inr (.inl λz=>ne (V.ref.inj z)),q⟩
def AR {b:Addr}(h:eO K H n (.ref a) (.ref b) c)(hn:n<=100)(ne:a≠b)(q:Q (.bl (!c)) H):dC K true (.ref a) (.ref b) H Q:=by unfold dC;exact ⟨n,c,h,hn,.inr (.inl λz=>ne (V.ref.inj z)),q⟩
def eq_self (h:rQ K H a)(q:Q (.bl true) H):dC K false (.ref a) (.ref a) H Q:=by unfold dC;exact ⟨1,true,.same a,by decide,.inr (.inr (.inl ⟨rfl,a,rfl,h⟩)),q⟩
def ne_self (h:tG K H a)(q:Q (.bl false) H):dC K true (.ref a) (.ref a) H Q:=by unfold dC;exact ⟨1,true,.same a,by decide,.inr (.inr (.inr ⟨rfl,a,rfl,h⟩)),q⟩
def qr (h:tyName x H=some t):eO K H (n+1) x x true:=by
 have key:aU x=true->eO K H (n+1) x x true:=λf=>by
  have:=eO.flat (K:=K) (H:=H) (n:=n+1) f f
  rwa [kK f] at this
 cases x<;>first|exact key rfl|exact .same _|(cases h)
def all_true (n:Nat):(List.range n).all (λ_=>true)=true:=by simp
def zK {b:Addr}{ys:List V}(h1:H a=some (.tup xs))(h2:H b=some (.tup ys))(hl:xs.length=ys.length)(h:∀ (j:Nat) x y,xs[j]? =some x->ys[j]? =some y->eO K H (n+1) x y true):eO K H (n+2) (.ref a) (.ref b) true:=by
 have:=eO.tt (K:=K) (n:=n) (e:=λ_=>true) (aS.of h1) (aS.of h2) h;rw[all_true,hl] at this;simpa using this
end
variable {K:W.Frag}{rest:St}{te:TE}
section
variable {D:Ends}{F:(St->Hp->Prop)->V->St->Hp->Prop}{U:St}{H:Hp}
def hE {lo:Int}(I:Nat->St->Hp->Prop)(h0:I 0 U H)(hs:∀ j U H,j<n->I j U H->F (I (j+1)) (.int (lo+j)) U H) (hd:∀ U H,I n U H->D.nx U H):fz (Gq lo n) D F U H:=by
 unfold fz;refine ⟨λi m U H=>m=n-i/\i<=n/\I i U H,⟨n,by simp,Nat.zero_le _,h0⟩,λi m U H ⟨e,hi,h⟩=>?_⟩
 by_cases hlt:i<n
 ·refine .inr ⟨hlt,I (i+1),λσ' H' h'=>⟨n-(i+1),by omega,rfl,hlt,h'⟩,λx H' y=>?_⟩;obtain ⟨rfl,rfl⟩:=y;exact hs i U H' hlt h
 ·have:i=n:=by omega
  subst this;exact .inl ⟨pi _,hd U H h⟩
def jP (I:Nat->St->Hp->Prop)(h0:I 0 U H)(hl:∀ j U H,I j U H->bc K H a xs)
  (hs:∀ j x U H,xs[j]? =some x->I j U H->F (I (j+1)) x U H) (hd:∀ U H,I xs.length U H->D.nx U H):fz (BM K a) D F U H:=by
 unfold fz;refine ⟨λi m U H=>m=xs.length-i/\i<=xs.length/\I i U H,⟨xs.length,by simp,Nat.zero_le _,h0⟩,λi m U H ⟨e,hi',h⟩=>?_⟩
 by_cases hlt:i<xs.length
 ·refine .inr ⟨⟨xs,xs[i],hl i U H h,li hlt⟩,I (i+1),λσ' H' h'=>⟨xs.length-(i+1),by omega,rfl,hlt,h'⟩,λx H' y=>?_⟩;obtain ⟨rfl,hy⟩:=y;exact hs i x U H' (hy xs (hl i U H' h)) h
 ·have:i=xs.length:=by omega
  subst this;exact .inl ⟨⟨xs,hl _ U H h,pi _⟩,hd U H h⟩
def oh (I:Nat->St->Hp->Prop)(h0:I 0 U H)(hl:∀ j U H,I j U H->H a=some (.lst xs)) (hs:∀ j x T U H,xs[j]? =some x->I j U H->H T=none->F (I (j+1)) (.ref T) U (upd H T (.tup [.int j,x])))
  (hd:∀ U H,I xs.length U H->D.nx U H):fz (Jq a) D F U H:=by
 unfold fz;refine ⟨λi m U H=>m=xs.length-i/\i<=xs.length/\I i U H,⟨xs.length,by simp,Nat.zero_le _,h0⟩,λi m U H ⟨e,hi',h⟩=>?_⟩
 by_cases hlt:i<xs.length
 ·refine .inr ⟨⟨xs,xs[i],hl i U H h,li hlt⟩,I (i+1),λσ' H' h'=>⟨xs.length-(i+1),by omega,rfl,hlt,h'⟩,λx H' y=>?_⟩;obtain ⟨T,z,hT,rfl,rfl,hy⟩:=y;exact hs i z T U H (hy xs (hl i U H h)) h hT
 ·have:i=xs.length:=by omega
  subst this;exact .inl ⟨⟨xs,hl _ U H h,pi _⟩,hd U H h⟩
def C4 (I:Nat->St->Hp->Prop)(h0:I 0 U H)(hl:∀ j U H,I j U H->aS K H a xs) (hs:∀ j x T U H,xs[j]? =some x->I j U H->H T=none->F (I (j+1)) (.ref T) U (upd H T (.tup [.int j,x])))
  (hd:∀ U H,I xs.length U H->D.nx U H):fz (IX K a) D F U H:=by
 unfold fz;refine ⟨λi m U H=>m=xs.length-i/\i<=xs.length/\I i U H,⟨xs.length,by simp,Nat.zero_le _,h0⟩,λi m U H ⟨e,hi',h⟩=>?_⟩
 by_cases hlt:i<xs.length
 ·refine .inr ⟨⟨xs,xs[i],hl i U H h,li hlt⟩,I (i+1),λσ' H' h'=>⟨xs.length-(i+1),by omega,rfl,hlt,h'⟩,λx H' y=>?_⟩;obtain ⟨T,z,hT,rfl,rfl,hy⟩:=y;exact hs i z T U H (hy xs (hl i U H h)) h hT
 ·have:i=xs.length:=by omega
  subst this;exact .inl ⟨⟨xs,hl _ U H h,pi _⟩,hd U H h⟩
def yp {hi:Int}(I:Nat->St->Hp->Prop)(h0:I 0 U H)(hs:∀ j U H,j<n->I j U H->F (I (j+1)) (.int (hi-j)) U H) (hd:∀ U H,I n U H->D.nx U H):fz (Jp hi n) D F U H:=by
 unfold fz;refine ⟨λi m U H=>m=n-i/\i<=n/\I i U H,⟨n,by simp,Nat.zero_le _,h0⟩,λi m U H ⟨e,hi,h⟩=>?_⟩
 by_cases hlt:i<n
 ·refine .inr ⟨hlt,I (i+1),λσ' H' h'=>⟨n-(i+1),by omega,rfl,hlt,h'⟩,λx H' y=>?_⟩;obtain ⟨rfl,rfl⟩:=y;exact hs i U H' hlt h
 ·have:i=n:=by omega
  subst this;exact .inl ⟨pi _,hd U H h⟩
@[irreducible] noncomputable def pA (I:Addr->List V->Hp->Prop) (D:Addr) (ys:List V) (rest:St) (x:Option V):VK:=λv H3=>∃ zs,H3 D=some (.lst zs)/\zs.length<bn/\∃ ys2 x2,x::rest=x2::rest/\ys2.length=ys.length+1/\I D ys2 (upd H3 D (.lst (zs++[v])))
def pA.mk {I:Addr->List V->Hp->Prop}{D:Addr}{ys:List V}{x:Option V}{v:V}{H3:Hp}(h1:H3 D=some (.lst ys))(hl:ys.length<=999)(h2:I D (ys++[v]) (upd H3 D (.lst (ys++[v])))):pA I D ys rest x v H3:=
 by unfold pA;exact ⟨ys,h1,cD nofun,ys++[v],x,rfl,by simp,h2⟩
def nM (hn:n<=1000)(I:Addr->List V->Hp->Prop)(h0:∀ D,H D=none->I D [] (upd H D (.lst [])))
  (hs:∀ D ys H',ys.length<n->I D ys H'->te (some (.int (0+(ys.length:Nat)))::rest) H' (pA I D ys rest (some (.int (0+(ys.length:Nat))))))
  (hd:∀ D ys H',ys.length=n->I D ys H'->Q (.ref D) H'):wa te (Gq 0 n) (none::rest) H Q:=by
 unfold wa;intro D hD;refine ⟨λi m σ' H'=>m=n-i/\i<=n/\∃ ys x0,σ'=x0::rest/\ys.length=i/\I D ys H',⟨n,by simp,Nat.zero_le _,[],none,rfl,rfl,h0 D hD⟩,λi m σ' H' ⟨e,hi,ys,x0,e1,e2,h⟩=>?_⟩;subst e1 e2
 by_cases hlt:ys.length<n
 ·refine .inr ⟨hlt,λσ2 H2=>∃ ys2 x2,σ2=x2::rest/\ys2.length=ys.length+1/\I D ys2 H2,λσ2 H2 ⟨ys2,x2,f1,f2,f3⟩=>⟨n-(ys.length+1),by omega,rfl,hlt,ys2,x2,f1,f2,f3⟩,λx H'' y=>?_⟩;obtain ⟨e1,e2⟩:=y;subst e1 e2;have z:=hs D ys H'' hlt h;unfold pA at z;exact z
 ·have:ys.length=n:=by omega
  exact .inl ⟨Nat.le_of_eq this.symm,hd D ys H' this h⟩
def rS (hn:xs.length<=1000)(I:Addr->List V->Hp->Prop)(hl:∀ D ys H,I D ys H->bc K H a xs) (h0:∀ D,H D=none->I D [] (upd H D (.lst [])))
  (hs:∀ D ys x H',xs[ys.length]? =some x->I D ys H'->te (some x::rest) H' (pA I D ys rest (some x)))
  (hd:∀ D ys H',ys.length=xs.length->I D ys H'->Q (.ref D) H'):wa te (BM K a) (none::rest) H Q:=by
 unfold wa;intro D hD;refine ⟨λi m σ' H'=>m=xs.length-i/\i<=xs.length/\∃ ys x0,σ'=x0::rest/\ys.length=i/\I D ys H',⟨xs.length,by simp,Nat.zero_le _,[],none,rfl,rfl,h0 D hD⟩,λi m σ' H' ⟨e,hi,ys,x0,e1,e2,h⟩=>?_⟩;subst e1 e2
 by_cases hlt:ys.length<xs.length
 ·refine .inr ⟨⟨xs,xs[ys.length],hl D ys H' h,li hlt⟩,λσ2 H2=>∃ ys2 x2,σ2=x2::rest/\ys2.length=ys.length+1/\I D ys2 H2,λσ2 H2 ⟨ys2,x2,f1,f2,f3⟩=>⟨xs.length-(ys.length+1),by omega,rfl,hlt,ys2,x2,f1,f2,f3⟩,λx H'' y=>?_⟩;obtain ⟨e1,hy⟩:=y;subst e1;have z:=hs D ys x H'' (hy xs (hl D ys H'' h)) h;unfold pA at z;exact z
 ·have:ys.length=xs.length:=by omega
  exact .inl ⟨⟨xs,hl D ys H' h,Nat.le_of_eq this.symm⟩,hd D ys H' this h⟩
def xH {K:W.Frag}{G:Gx}{bs:List Bool}(hc:G.cm=true)(e:H a=some (.lst (bs.map V.bl)))(q:Q (.bl (bs.all id)) H):lJ G .all [.ref a] H Q:=by unfold lJ;exact ⟨hc,_,bs,rfl,bc.of e,q⟩
def iz (q:Q (.bl (decide (x=.non))) H):A0 false x .non H Q:=by unfold A0;exact q
def bg (q:Q (.bl (!decide (x=.non))) H):A0 true x .non H Q:=by unfold A0;exact q
def pq (e:aS K H a xs)(fx:aU x=true)(fs:xs.all aU=true)(q:Q (.bl (HI x xs)) H):Ju K false x (.ref a) H Q:=by unfold Ju;exact .inl ⟨xs,.inr e,fx,fs,q⟩
end
variable {tp1 tp2:Bool}{zs:List V}{F:(St->Hp->Prop)->V->St->Hp->Prop}{kvs:List (Key×V)}{k:Key}
section
variable {K:W.Frag}{G:Gx}{O Γ':List aq}{H:Hp}{Q:VK}{a b:Addr}{xs ys:List V}{v:V}
def LN (h1:Sq K tp1 H a xs)(h2:Sq K tp2 H b ys)(h:R (KL K tp1 a tp2 b) H):C5 K (.ref a) (.ref b) H R:=by unfold C5;exact ⟨tp1,a,tp2,b,rfl,rfl,⟨xs,h1⟩,⟨ys,h2⟩,h⟩
def Js {tp3:Bool}{c:Addr}(h1:Sq K tp1 H a xs)(h2:Sq K tp2 H b ys)(h3:Sq K tp3 H c zs)(h:R (CN K tp1 a tp2 b tp3 c) H):um K (.ref a) (.ref b) (.ref c) H R:=by unfold um;exact ⟨tp1,a,tp2,b,tp3,c,rfl,rfl,rfl,⟨xs,h1⟩,⟨ys,h2⟩,⟨zs,h3⟩,h⟩
def yg {D:Ends}{U:St}{tp3:Bool}{c:Addr}(I:Nat->St->Hp->Prop)(hn:xs.length=ys.length)(hn2:xs.length=zs.length)(h0:I 0 U H)(hl:∀ j U H,I j U H->Sq K tp1 H a xs/\Sq K tp2 H b ys/\Sq K tp3 H c zs)
  (hs:∀ j x y v T U H,xs[j]? =some x->ys[j]? =some y->zs[j]? =some v->I j U H->H T=none->F (I (j+1)) (.ref T) U (upd H T (.tup [x,y,v]))) (hd:∀ U H,I xs.length U H->D.nx U H):fz (CN K tp1 a tp2 b tp3 c) D F U H:=by
 unfold fz;refine ⟨λi m U H=>m=xs.length-i/\i<=xs.length/\I i U H,⟨xs.length,by simp,Nat.zero_le _,h0⟩,λi m U H ⟨e,hi',h⟩=>?_⟩
 by_cases hlt:i<xs.length
 ·obtain ⟨g1,g2,g3⟩:=hl i U H h;refine .inr ⟨⟨xs,ys,zs,xs[i],ys[i]'(hn▸hlt),zs[i]'(hn2▸hlt),g1,g2,g3,li hlt,li (hn▸hlt),li (hn2▸hlt)⟩,I (i+1),λσ' H' h'=>⟨xs.length-(i+1),by omega,rfl,hlt,h'⟩,λx H' y=>?_⟩;obtain ⟨T,z,z',z'',hT,rfl,rfl,hy,hy',hy''⟩:=y;exact hs i z z' z'' T U H (hy xs g1) (hy' ys g2) (hy'' zs g3) h hT
 ·have:i=xs.length:=by omega
  subst this;obtain ⟨g1,g2,g3⟩:=hl _ U H h;exact .inl ⟨⟨xs,g1,pi _⟩,hd U H h⟩
def CV {D:Ends}{U:St}(I:Nat->St->Hp->Prop)(hn:xs.length=ys.length)(h0:I 0 U H)(hl:∀ j U H,I j U H->Sq K tp1 H a xs/\Sq K tp2 H b ys)
  (hs:∀ j x y T U H,xs[j]? =some x->ys[j]? =some y->I j U H->H T=none->F (I (j+1)) (.ref T) U (upd H T (.tup [x,y]))) (hd:∀ U H,I xs.length U H->D.nx U H):fz (KL K tp1 a tp2 b) D F U H:=by
 unfold fz;refine ⟨λi m U H=>m=xs.length-i/\i<=xs.length/\I i U H,⟨xs.length,by simp,Nat.zero_le _,h0⟩,λi m U H ⟨e,hi',h⟩=>?_⟩
 by_cases hlt:i<xs.length
 ·obtain ⟨g1,g2⟩:=hl i U H h;refine .inr ⟨⟨xs,ys,xs[i],ys[i]'(hn▸hlt),g1,g2,li hlt,li (hn▸hlt)⟩,I (i+1),λσ' H' h'=>⟨xs.length-(i+1),by omega,rfl,hlt,h'⟩,λx H' y=>?_⟩;obtain ⟨T,z,z',hT,rfl,rfl,hy,hy'⟩:=y;exact hs i z z' T U H (hy xs g1) (hy' ys g2) h hT
 ·have:i=xs.length:=by omega
  subst this;obtain ⟨g1,g2⟩:=hl _ U H h;exact .inl ⟨⟨xs,ys,g1,g2,.inl (pi _)⟩,hd U H h⟩
def JM {ks:List Key}(s:Sep O H)(h1:Sq K tp1 H a (ks.map kV))(h2:Sq K tp2 H b ys)(hn:ks.Nodup)(hl:ks.length=ys.length)(hz:ks.length<=1000)(h:∀ p H',Sep (pt p (.dK (ks.zip ys))::O) H'->Q (.ref p) H'):JF K (.ref a) (.ref b) H Q:=by unfold JF;exact ⟨tp1,a,tp2,b,ks,ys,rfl,rfl,h1,h2,hn,hl,hz,al s h⟩
def oz (e:H a=some (.dK kvs))(hv:di kvs k=some v)(q:Q v H):qj K (.ref a) (kV k) H Q:=by unfold qj;exact .inr ⟨v,.inl ⟨kvs,k,.inl e,rfl,hv.symm⟩,q⟩
def El {kvs':List (Key×V)}{R:Hp->Prop}(s:Sep O H)(r:aI (pt a (.dK kvs)) (pt a (.dK kvs')) O Γ')(hl:kvs.length<=10000)(hx:putK kvs k v=kvs')(h:∀ H',Sep Γ' H'->R H'):gH (.ref a) (kV k) v H R:=by
 obtain ⟨Δ,h1,h2⟩:=r.bG;subst hx;unfold gH;exact .inr ⟨_,.inl ⟨kvs,k,s.get h1,rfl,Nat.lt_of_le_of_lt hl (by decide),rfl⟩,h _ (s.put r rfl)⟩
def uK (s:Sep O H)(e:H a=some (.dK kvs))(h:∀ p H',Sep (pt p (.dK kvs)::O) H'->Q (.ref p) H'):lJ G .dict [.ref a] H Q:=by unfold lJ;exact ⟨_,kvs,rfl,e,al s h⟩
def G6 (hn:xs.length<=1000)(I:Addr->List V->Hp->Prop)(hl:∀ D ys H,I D ys H->aS K H a xs) (h0:∀ D,H D=none->I D [] (upd H D (.lst [])))
  (hs:∀ D ys x H',xs[ys.length]? =some x->I D ys H'->te (some x::rest) H' (pA I D ys rest (some x)))
  (hd:∀ D ys H',ys.length=xs.length->I D ys H'->Q (.ref D) H'):wa te (J4 K a) (none::rest) H Q:=by
 unfold wa;intro D hD;refine ⟨λi m σ' H'=>m=xs.length-i/\i<=xs.length/\∃ ys x0,σ'=x0::rest/\ys.length=i/\I D ys H',⟨xs.length,by simp,Nat.zero_le _,[],none,rfl,rfl,h0 D hD⟩,λi m σ' H' ⟨e,hi,ys,x0,e1,e2,h⟩=>?_⟩;subst e1 e2
 by_cases hlt:ys.length<xs.length
 ·refine .inr ⟨⟨xs,xs[ys.length],hl D ys H' h,li hlt⟩,λσ2 H2=>∃ ys2 x2,σ2=x2::rest/\ys2.length=ys.length+1/\I D ys2 H2,λσ2 H2 ⟨ys2,x2,f1,f2,f3⟩=>⟨xs.length-(ys.length+1),by omega,rfl,hlt,ys2,x2,f1,f2,f3⟩,λx H'' y=>?_⟩;obtain ⟨e1,hy⟩:=y;subst e1;have z:=hs D ys x H'' (hy xs (hl D ys H'' h)) h;unfold pA at z;exact z
 ·have:ys.length=xs.length:=by omega
  exact .inl ⟨⟨xs,hl D ys H' h,Nat.le_of_eq this.symm⟩,hd D ys H' this h⟩
def J6 (e:aS K H a xs)(h:R (J4 K a) H):tH K a H R:=by unfold tH;exact .inr ⟨⟨xs,e⟩,h⟩
def uu {tp:Bool}(s:Sep O H)(e:H a=some (.dK kvs))(h:∀ p H',Sep (pt p (BU tp (kvs.map (·.2)))::O) H'->Q (.ref p) H'):pv tp (.ref a) H Q:=by unfold pv;exact ⟨a,kvs,rfl,e,al s h⟩
def LS {p:Addr}{w:V}(e:H p=some (.dK kvs))(q:Q ((di kvs k).getD w) H):C0 p (kV k) w H Q:=by unfold C0;exact ⟨kvs,k,e,rfl,q⟩
def Cw {C:Addr}(s:Sep O H)(h:∀ x dx H',Sep (pt x (.ins C dx [])::pt dx (.own x)::O) H'->Q (.ref x) H'):AI C H Q:=by unfold AI;exact λx dx h1 h2 h3=>h x dx _ (jA s h1 h2 h3)
end
end L3
namespace L3
open PySem PySem.Spec PySem.W L2
variable {ps:List Str}
def yv:∀ {us:List Value}{n:Str},us.length=ps.length->n ∈ ps->((ps.zip us).lookup n).isNone=false:=by
 induction ps with
 |nil=>intro us n _ h;cases h
 |cons p ps ih=>
  intro us n hl h;cases us with
  |nil=>cases hl
  |cons u us=>
   rw[zip_cons_cons,lookup_cons];cases e:n ==p with
   |true=>rfl
   |false=>
    rcases lw.mp h with rfl|h
    ·rw[beq_self_eq_true] at e;cases e
    ·exact ih (Nat.succ.inj hl) h
def tF:∀ {ps:List Str}{us:List Value},ps.Nodup->us.length=ps.length->∀ {L:List (Str×Value)},(∀ n ∈ ps,L.lookup n=(ps.zip us).lookup n)->ps.filterMap (λn=>(L.lookup n).map (n,·))=ps.zip us
 | [],us,_,_,L,_=>rfl
 |p::ps,[],_,hl,L,_=>by cases hl
 |p::ps,u::us,nd,hl,L,hL=>by
  have h0:L.lookup p=some u:=by rw[hL p lv,zip_cons_cons,lookup_cons,beq_self_eq_true]
  rw[filterMap_cons,h0,zip_cons_cons];show (p,u)::_=_;rw[tF (nodup_cons.mp nd).2 (Nat.succ.inj hl) (L:=L)];intro n hn;rw[hL n (dL _ hn),zip_cons_cons,lookup_cons];have:(n ==p)=false:=by
   cases e:n ==p with
   |false=>rfl
   |true=>
    have:=beq_iff_eq.mp e;subst this;exact absurd hn (nodup_cons.mp nd).1
  rw[this]
variable {fd:FuncData}
def qa (nd:ps.Nodup)(h1:fd.params.posonlyargs=[])(h2:fd.params.args.map (·.arg)=ps)(h3:fd.params.kwonlyargs=[])(h4:fd.params.vararg=none)(h5:fd.params.kwarg=none)(h6:fd.defaults=.none)(us:List Value)(hl:us.length=ps.length):
  bindArgs fd ⟨us,[]⟩=pure (ps.zip us):=by
 obtain ⟨name,qual,⟨po,as,va,ko,kd,ka,df⟩,body,scope,glo,bL,dV,kV,doc,pm,an,cdv,ct,bu⟩:=fd;dsimp only at h1 h2 h3 h4 h5 h6;subst h1 h2 h3 h4 h5 h6;generalize hps:as.map (·.arg)=ps at nd hl⊢;have e1:seqItems? (Value.none)=(pure none:Sem (Option (Array Value))):=rfl;have e2:∀ f:Str->Bool,(∀ n ∈ ps,f n=false)->ps.filter f=[]:=λf h=>List.filter_eq_nil_iff.mpr λa ha=>by rw[h a ha];decide
 have e3:¬ (us.length>ps.length):=by omega
 have e4:=e2 (λn=>((ps.zip us).lookup n).isNone) λn hn=>yv hl hn
 have e5:=tF nd hl (L:=ps.zip us) λ_ _=>rfl
 unfold bindArgs;dsimp only[List.map_nil,nil_append,append_nil];rw[hps];simp[e1,e3,e4,e5]
abbrev gD (S:List (Str×Value))(x:Str×Value):List (Str×Value):=if (S.lookup x.1).isNone=true then S++[x] else S
def EY:∀ {L:List (Str×Value)}{S:List (Str×Value)},(∀ x ∈ L,(S.lookup x.1).isNone=false)->L.foldl gD S=S
 | [],_,_=>rfl
 |x::L,S,h=>by
  have h0:gD S x=S:=by
   unfold gD;rw[if_neg (by rw[h x lv];decide)]
  rw[foldl_cons,h0];exact EY λy hy=>h y (dL _ hy)
def DY:∀ {L:List (Str×Value)}{S:List (Str×Value)},(L.map (·.1)).Nodup->(∀ x ∈ L,S.lookup x.1=none)->L.foldl gD S=S++L
 | [],S,_,_=>by rw[append_nil];rfl
 |x::L,S,nd,h=>by
  have h0:gD S x=S++[x]:=by
   unfold gD;rw[if_pos (by rw[h x lv];rfl)]
  rw[map_cons] at nd;rw[foldl_cons,h0,DY (nodup_cons.mp nd).2]
  ·rw[le];rfl
  ·intro y hy;have hne:(y.1 ==x.1)=false:=by
    cases e:y.1 ==x.1 with
    |false=>rfl
    |true=>
     have e:=beq_iff_eq.mp e;exact absurd (List.mem_map_of_mem (f:=(·.1)) hy) (e▸(nodup_cons.mp nd).1)
   obtain ⟨a,b⟩:=x;rw[List.lookup_append,h y (dL _ hy),lookup_cons,hne]
   rfl
def Eo {n:Str}:∀ {L:List (Str×Value)},(∀ x ∈ L,x.1≠n)->L.lookup n=none
 | [],_=>rfl
 |(a,b)::L,h=>by
  have:(n ==a)=false:=by
   cases e:n ==a with
   |false=>rfl
   |true=>exact absurd (beq_iff_eq.mp e).symm (h (a,b) lv)
  rw[lookup_cons,this];exact Eo λx hx=>h x (dL _ hx)
variable {A:List Str}{B:List Value}
def nW {x:Str×Value}(h:x ∈ A.zip B):x.1 ∈ A:=by
 obtain ⟨a,b⟩:=x;exact (of_mem_zip h).1
def zip_map (h:A.length<=B.length):(A.zip B).map (·.1)=A:=List.map_fst_zip h
def nR {B:List Str}{us:List Value}(h:A.length=us.length):(A++B).zip us=A.zip us:=by
 have:=zip_append (l₁:=A) (l₂:=us) (r₁:=B) (r₂:=[]) h;rw[append_nil,List.zip_nil_right,append_nil] at this;exact this
def Cr {B:List Str}{us D1 D2:List Value}(nd:(A++B).Nodup)(h1:A.length=us.length)(h2:B.length=D2.length)(h3:D1.length<=A.length):
  (((A++B).drop (A.length-D1.length)).zip (D1++D2)).foldl gD ((A++B).zip us)=(A++B).zip (us++D2):=by
 have a:=EY (L:=(A.drop (A.length-D1.length)).zip D1) (S:=(A++B).zip us) λx hx=>by
  rw[nR h1];exact yv h1.symm (mem_of_mem_drop (nW hx))
 have b:=DY (L:=B.zip D2) (S:=(A++B).zip us) (by rw[zip_map nofun];exact (List.nodup_append.mp nd).2.1) λx hx=>by
  refine Eo λy hy e=>?_
  rw[nR h1] at hy;exact (List.nodup_append.mp nd).2.2 y.1 (nW hy) x.1 (nW hx) e
 rw[List.drop_append_of_le_length nofun,zip_append (by rw[jp];omega),List.foldl_append,a,b,nR h1,zip_append h1]
def Ak {us ds:List Value}(nd:ps.Nodup)(h1:us.length<=ps.length)(h2:ds.length<=ps.length)(h3:ps.length<=us.length+ds.length):
  ((ps.drop (ps.length-ds.length)).zip ds).foldl gD (ps.zip us)=ps.zip (us++ds.drop (us.length+ds.length-ps.length)):=by
 have nd2:(ps.take us.length++ps.drop us.length).Nodup:=by rw[take_append_drop];exact nd
 have:=Cr (A:=ps.take us.length) (B:=ps.drop us.length) (us:=us) (D1:=ds.take (us.length+ds.length-ps.length)) (D2:=ds.drop (us.length+ds.length-ps.length)) nd2 (by rw[dl];omega) (by rw[jp,jp];omega) (by rw[dl,dl];omega);rw[take_append_drop,take_append_drop,dl,dl] at this;rw[show min us.length ps.length-min (us.length+ds.length-ps.length) ds.length=ps.length-ds.length by omega] at this;exact this
def rg:∀ {L:List (Str×Value)}{S:List (Str×Value)},(forIn L S λx r=>(match x with|(name,d)=>if (r.lookup name).isNone=true then pure (ForInStep.yield (r++[(name,d)])) else pure (ForInStep.yield r):Sem (ForInStep (List (Str×Value)))))=pure (L.foldl gD S)
 | [],S=>by simp
 |(a,b)::L,S=>by
  rw[forIn_cons,foldl_cons,<-rg];unfold gD
  by_cases e:(S.lookup a).isNone=true
  ·simp only[e,if_true,pure_bind]
  ·simp only[e,if_false,pure_bind,Bool.false_eq_true]
def Ag {T:Addr}{items:Array Value}(nd:ps.Nodup)(h1:fd.params.posonlyargs=[])(h2:fd.params.args.map (·.arg)=ps)(h3:fd.params.kwonlyargs=[])(h4:fd.params.vararg=none)(h5:fd.params.kwarg=none)(h6:fd.defaults=.ref T)(us:List Value)(l1:us.length<=ps.length)(l2:items.toList.length<=ps.length)(l3:ps.length<=us.length+items.toList.length):
  ∃ k:Option (Array Value)->Sem (List (Str×Value)),bindArgs fd ⟨us,[]⟩=seqItems? fd.defaults >>= k/\k (some items)=pure (ps.zip (us++items.toList.drop (us.length+items.toList.length-ps.length))):=by
 obtain ⟨name,qual,⟨po,as,va,ko,kd,ka,df⟩,body,scope,glo,bL,dV,kV,doc,pm,an,cdv,ct,bu⟩:=fd;dsimp only at h1 h2 h3 h4 h5 h6;subst h1 h2 h3 h4 h5 h6;generalize hps:as.map (·.arg)=ps at nd l1 l2 l3⊢;have e2:∀ f:Str->Bool,(∀ n ∈ ps.take (ps.length-items.toList.length),f n=false)->(ps.take (ps.length-items.toList.length)).filter f=[]:=λf h=>List.filter_eq_nil_iff.mpr λa ha=>by rw[h a ha];decide
 have e3:¬ (us.length>ps.length):=by omega
 have ez:ps.zip us=(ps.take us.length).zip us:=by
  have:=nR (A:=ps.take us.length) (B:=ps.drop us.length) (us:=us) (by rw[dl];omega);rw[take_append_drop] at this;exact this
 have e4:=e2 (λn=>((ps.zip us).lookup n).isNone) λn hn=>by
  rw[ez];refine yv (by rw[dl];omega) ?_;have:ps.take (ps.length-items.toList.length)=(ps.take us.length).take (ps.length-items.toList.length):=by rw[List.take_take,Nat.min_eq_left nofun]
  rw[this] at hn;exact mem_of_mem_take hn
 have e6:=Ak (us:=us) (ds:=items.toList) nd l1 l2 l3;have e5:=tF (us:=us++items.toList.drop (us.length+items.toList.length-ps.length)) nd (by rw[cr,jp];omega) λ_ _=>rfl
 have e7:items.toList.length-ps.length=0:=by omega
 unfold bindArgs;dsimp only[List.map_nil,nil_append,append_nil];rw[hps];refine ⟨_,rfl,?_⟩;simp only[Option.getD_some,List.map_nil,nil_append,e7,drop_zero,e4,e3,List.isEmpty_nil,Bool.not_true,decide_false,Bool.false_and,Bool.false_eq_true,if_false,forIn_nil,append_nil];rw[rg,e6,pure_bind,pure_bind];simp only[e5,List.isEmpty_nil,Bool.not_true,Bool.false_eq_true,if_false]
abbrev EO (x:Option (Option Value))(a:Addr):Bool:=match x with
 |some (some (.ref b))=>b ==a
 |_=>false
variable {x:Option (Option Value)}
def f7 {a:Addr}(h:EO x a=true):x=some (some (.ref a)):=by
 unfold EO at h
 split at h
 ·rw[beq_iff_eq.mp h]
 ·cases h
abbrev vC (x:Option (Option Value))(a:String):Bool:=match x with
 |some (some (.builtin b))=>b ==a
 |_=>false
variable {a:String}
def cH (h:vC x a=true):x=some (some (.builtin a)):=by
 unfold vC at h
 split at h
 ·rw[beq_iff_eq.mp h]
 ·cases h
abbrev LK (x:Option Value)(a:String):Bool:=match x with
 |some (.type b)=>b ==a
 |_=>false
def Hg {x:Option Value}(h:LK x a=true):x=some (.type a):=by
 unfold LK at h
 split at h
 ·rw[beq_iff_eq.mp h]
 ·cases h
abbrev x9 (x:Option (Option Value)):Bool:=match x with
 |some none=>true
 |_=>false
def oq (h:x9 x=true):x=some none:=by
 unfold x9 at h
 split at h
 ·rfl
 ·cases h
abbrev BV (x:Option Bool)(b:Bool):Bool:=match x with
 |some c=>c ==b
 |none=>false
def fg {x:Option Bool}{b:Bool}(h:BV x b=true):x=some b:=by
 unfold BV at h
 split at h
 ·rw[beq_iff_eq.mp h]
 ·cases h
abbrev Lq (v:V)(x:Option (Option Value)):Bool:=match v,x with
 | .int i,some (some (.int j _))=>i ==j
 | .str s,some (some (.str s' _))=>s ==s'
 | .ref a,y=>EO y a
 |_,_=>false
def FZ {v:V}(h:Lq v x=true):∃ u,x=some (some u)/\RelV v u:=by
 unfold Lq at h
 split at h
 ·rw[<-beq_iff_eq.mp h];exact ⟨_,rfl,_,rfl⟩
 ·rw[<-beq_iff_eq.mp h];exact ⟨_,rfl,_,rfl⟩
 ·rw[f7 h];exact ⟨_,rfl,rfl⟩
 ·cases h
section
variable (K:Frag) (C:Addr)
abbrev Dz:Bool:=plainGet K C Str.empty&&(hasDictIn K C&&(plainOver K C&&vC (findIn K (.ref C) "__setattr__") "object.__setattr__"))
def u9 {K:Frag}{C:Addr}(h:Dz K C=true):Cs K C:=by
 unfold Dz at h;simp only[mo] at h;exact ⟨h.1,h.2.1,h.2.2.1,cH h.2.2.2⟩
abbrev CS:Bool:=vC (findIn K (.ref C) "__class__") "object.__class__"&&(vC (specialIn K (.builtin "object.__class__") "__get__") "getset_descriptor.__get__"&&BV (takesIn K (.builtin "object.__class__")) true)
abbrev pC:Bool:=LK (typeIn K (.ref C)) "type"&&((clsIn K C).any (λcd=>dI cd.mro)&&(hasDictIn K C&&(vC (findIn K (.ref C) "__getattribute__") "BaseException.__getattribute__"&&(x9 (findIn K (.ref C) "__getattr__")&&vC (findIn K (.ref C) "__setattr__") "object.__setattr__"))))
def ku {K:Frag}{C:Addr}(h:pC K C=true):cN K C:=by
 unfold pC at h;simp only[mo] at h;exact ⟨Hg h.1,h.2.1,h.2.2.1,cH h.2.2.2.1,oq h.2.2.2.2.1,cH h.2.2.2.2.2⟩
end
abbrev all2 {α:Type}(l:List α)(p:α->Bool):Bool:=match l with
 | []=>true
 |a::r=>p a&&all2 r p
def aB {α:Type}{p:α->Bool}:∀ {l:List α},all2 l p=true->∀ a ∈ l,p a=true
 | [],_,_,h=>by cases h
 |a::r,h,b,hb=>by
  unfold all2 at h;rw[mo] at h;rcases lw.mp hb with rfl|hb
  ·exact h.1
  ·exact aB h.2 b hb
abbrev G7 (K:Frag)(fs cs:List Addr)(gs:List (Str×V)):Rt:=⟨K,λi=>fs.getD i 0,λi=>cs.getD i 0,λx=>gs.lookup x⟩
section
variable (K:Frag) (T:Tab) (fs cs:List Addr) (gs:List (Str×V))
abbrev BE:Bool:=
 (all2 T.gfn (λp=>EO (nsIn K mainGlobals p.1) (fs.getD p.2 0)&&(keepIn K (.ref (fs.getD p.2 0))&&(T.fns[p.2]?).isSome))&&
 (all2 T.gcl (λp=>EO (nsIn K mainGlobals p.1) (cs.getD p.2 0))&&
 (all2 T.gbl (λx=>x9 (nsIn K mainGlobals x)&& !(x ==("__name__":Str)))&&
 (all2 T.gbi (λx=>match nsIn K mainGlobals x with
  |some (some (.ref B))=>vC (specialIn K (.ref B) "__getattribute__") "type.__getattribute__"&&(readsIn K B (.type "type")&&(match findCls K (.ref B) (.type "type") "__init__" with|some (.val (.builtin n))=>n =="ValueError.__init__"|_=>false))
  |_=>false)&&
 (all2 gs (λp=>Lq p.2 (nsIn K mainGlobals p.1))&&
 (all2 T.na (λp=>x9 (findIn K (.ref (cs.getD p.1 0)) p.2))&&
 (all2 T.me (λp=>Dz K (cs.getD p.1.1 0)&&(EO (findIn K (.ref (cs.getD p.1.1 0)) p.1.2) (fs.getD p.2 0)&&(isFn K (.ref (fs.getD p.2 0))&&(keepIn K (.ref (fs.getD p.2 0))&&(T.fns[p.2]?).isSome)))))))))))&&
 (all2 T.ini0 (λc=>bZ K (cs.getD c 0)&&(vC (findIn K (.ref (cs.getD c 0)) "__init__") "ValueError.__init__"&&(keepIn K (.ref (cs.getD c 0))&&pC K (cs.getD c 0))))&&
 (all2 T.inip (λc=>makesIn K (cs.getD c 0)&&(vC (findIn K (.ref (cs.getD c 0)) "__init__") "object.__init__"&&keepIn K (.ref (cs.getD c 0))))&&
 (all2 T.ini (λp=>(T.fns[p.2]?).isSome&&((if T.xc.contains p.1=true then bZ K (cs.getD p.1 0) else makesIn K (cs.getD p.1 0))&&(EO (findIn K (.ref (cs.getD p.1 0)) "__init__") (fs.getD p.2 0)&&(isFn K (.ref (fs.getD p.2 0))&&keepIn K (.ref (cs.getD p.1 0))))))&&
 (all2 T.oc (λc=>Dz K (cs.getD c 0)&&(CS K (cs.getD c 0)&&BV (mroIn K (cs.getD c 0) (.type "object")) true))&&
 (all2 T.xc (λc=>pC K (cs.getD c 0)&&CS K (cs.getD c 0))&&
 (all2 T.sub (λp=>BV (kitOne K (.ref (cs.getD p.1.1 0)) (.ref (cs.getD p.1.2 0))) p.2&&(!T.xc.contains p.1.1||(BV (mroIn K (cs.getD p.1.1 0) (.ref (cs.getD p.1.2 0))) p.2&&pC K (cs.getD p.1.2 0))))&&
 (all2 T.subT (λp=>BV (kitOne K (.ref (cs.getD p.1.1 0)) (.type p.1.2)) p.2)&&
 (all2 T.subB (λp=>BV (kitOne K (.type p.1.1) (.type p.1.2)) p.2)&&
 (all2 T.subO (λp=>BV (kitOne K (.type p.1.1) (.ref (cs.getD p.1.2 0))) p.2)&&
  all2 T.cin (λp=>vC (specialIn K (.ref (cs.getD p.1 0)) "__getattribute__") "type.__getattribute__"&&(readsIn K (cs.getD p.1 0) (.type "type")&&((match findCls K (.ref (cs.getD p.1 0)) (.type "type") "__init__" with|some (.val (.ref f))=>f ==fs.getD p.2 0|_=>false)&&(keepIn K (.ref (fs.getD p.2 0))&&(T.fns[p.2]?).isSome)))))))))))))
end
def jH {α:Type}{x:Option α}(h:x.isSome=true):∃ d,x=some d:=Option.isSome_iff_exists.mp h
variable {K:Frag}{T:Tab}{fs:List Addr}{gs:List (Str×V)}{mg:M8}
def CJ {cs:List Addr}{h:Heap}(X:K.In h)(G:h.Ns mainGlobals mg)(z:BE K T fs cs gs=true):BX K mg T (G7 K fs cs gs):=by
 unfold BE at z;simp only[mo] at z;obtain ⟨⟨z1,z2,z3,z4,z5,z6,z7⟩,z8,z9,z10,z11,z12,z13,z14,z15,z16,z17⟩:=z;exact {
  gfn:=j0 λp hp=>by
   have:=aB z1 p hp;simp only[mo] at this;exact ⟨mg_of X G (f7 this.1),this.2.1,jH this.2.2⟩
  gcl:=j0 λp hp=>mg_of X G (f7 (aB z2 p hp))
  gbl:=iN λx hx=>by
   have:=aB z3 x hx;simp only[mo] at this;exact ⟨mg_none_of X G (oq this.1),by simpa using this.2⟩
  gbi:=iN λx hx=>by
   have:=aB z4 x hx
   split at this
   ·rename_i B e;simp only[mo] at this;refine ⟨B,mg_of X G e,cH this.1,this.2.1,?_⟩;have t:=this.2.2
    split at t
    ·rename_i n e2;rw[e2,beq_iff_eq.mp t]
    ·cases t
   ·cases this
  gl:=j0 λp hp=>by
   obtain ⟨u,e,r⟩:=FZ (aB z5 p hp);exact ⟨u,mg_of X G e,r⟩
  na:=Ds λp hp=>oq (aB z6 p hp)
  me:=gw λp hp=>by
   have:=aB z7 p hp;simp only[mo] at this;exact ⟨u9 this.1,⟨f7 this.2.1,this.2.2.1,this.2.2.2.1⟩,jH this.2.2.2.2⟩
  ini0:=iN λc hc=>by
   have:=aB z8 c hc;simp only[mo] at this;exact ⟨this.1,cH this.2.1,this.2.2.1,ku this.2.2.2⟩
  inip:=iN λc hc=>by
   have:=aB z9 c hc;simp only[mo] at this;exact ⟨this.1,cH this.2.1,this.2.2⟩
  ini:=j0 λp hp=>by
   have:=aB z10 p hp;simp only[mo] at this;refine ⟨jH this.1,?_⟩;have t:=this.2
   by_cases e:T.xc.contains p.1=true
   ·rw[if_pos e] at t⊢;exact ⟨t.1,f7 t.2.1,t.2.2.1,t.2.2.2⟩
   ·rw[if_neg e] at t⊢;exact ⟨t.1,f7 t.2.1,t.2.2.1,t.2.2.2⟩
  oc:=iN λc hc=>by
   have:=aB z11 c hc;simp only[CS,mo] at this;exact ⟨u9 this.1,cH this.2.1.1,cH this.2.1.2.1,fg this.2.1.2.2,fg this.2.2⟩
  xc:=iN λc hc=>by
   have:=aB z12 c hc;simp only[CS,mo] at this;exact ⟨ku this.1,cH this.2.1,cH this.2.2.1,fg this.2.2.2⟩
  sub:=gw λp hp=>by
   have:=aB z13 p hp;simp only[mo] at this;refine ⟨fg this.1,λe=>?_⟩;have t:=this.2;rw[e,Bool.not_true,Bool.false_or,mo] at t;exact ⟨fg t.1,ku t.2⟩
  subT:=gw λp hp=>fg (aB z14 p hp)
  subB:=gw λp hp=>fg (aB z15 p hp)
  subO:=gw λp hp=>fg (aB z16 p hp)
  cin:=j0 λp hp=>by
   have:=aB z17 p hp;simp only[mo] at this;refine ⟨⟨cH this.1,this.2.1,?_,this.2.2.2.1⟩,jH this.2.2.2.2⟩;have t:=this.2.2.1
   split at t
   ·rename_i f e2;rw[beq_iff_eq.mp t] at e2;exact e2
   ·cases t }
abbrev KQ:List Str->Bool
 | []=>true
 |a::r=>!r.contains a&&KQ r
def zJ:∀ {l:List Str},KQ l=true->l.Nodup
 | [],_=>List.nodup_nil
 |a::r,h=>by
  unfold KQ at h;rw[mo] at h;exact nodup_cons.mpr ⟨by simpa using h.1,zJ h.2⟩
abbrev LV (N P:List Str)(sc:Scope):Bool:=decide (sc.kind=.function)&&(!sc.isCoroutine&&(!sc.isGenerator&&(KQ N&&(N.take P.length ==P&&(all2 P (λx=>match sc.names.lookup x with|some .local=>true|some .cell=>true|_=>false)&&all2 sc.names (λy=>match y.2 with| .free=>false|_=>true))))))
def rN {N P:List Str}{sc:Scope}(h:LV N P sc=true):jM N P sc:=by
 unfold LV at h;simp only[mo,decide_eq_true_eq] at h;refine ⟨h.1,by simpa using h.2.1,by simpa using h.2.2.1,zJ h.2.2.2.1,beq_iff_eq.mp h.2.2.2.2.1,λx hx=>?_,λy hy e=>?_⟩
 ·have:=aB h.2.2.2.2.2.1 x hx
  split at this
  ·rename_i e;exact .inl e
  ·rename_i e;exact .inr e
  ·cases this
 ·have:=aB h.2.2.2.2.2.2 y hy;rw[e] at this;cases this
abbrev Lc:V->Value->Bool
 | .non,.none=>true
 | .bl b,.bool c=>b ==c
 | .int i,.int j _=>i ==j
 | .str s,.str s' _=>s ==s'
 |_,_=>false
def Hu {v:V}{u:Value}(h:Lc v u=true):RelV v u:=by
 unfold Lc at h
 split at h
 ·rfl
 ·rw[beq_iff_eq.mp h];rfl
 ·rw[beq_iff_eq.mp h];exact ⟨_,rfl⟩
 ·rw[beq_iff_eq.mp h];exact ⟨_,rfl⟩
 ·cases h
abbrev yi:List V->List Value->Bool
 | [],[]=>true
 |v::vs,u::us=>Lc v u&&yi vs us
 |_,_=>false
def nH:∀ {vs:List V}{us:List Value},yi vs us=true->Vals vs us
 | [],[],_=>.nil
 |v::vs,u::us,h=>by
  unfold yi at h;rw[mo] at h;exact .cons (Hu h.1) (nH h.2)
 | [],_::_,h=>by cases h
 |_::_,[],h=>by cases h
abbrev LR (K:Frag)(fd:FuncData)(d:ao):Bool:=match fd.defaults with
 | .none=>d.dfl.isEmpty
 | .ref T=>!d.dfl.isEmpty&&(match K.lookup T with
  |some o=>(match o.data with| .seq items _=>yi d.dfl items.toList&&decide (items.toList.length<=d.ps.length)|_=>false)
  |none=>false)
 |_=>false
abbrev EH (K:Frag)(T:Tab)(f:Addr)(d:ao):Bool:=match K.lookup f with
 |some ⟨_,_,.func fd,_⟩=>(match fd.body with
  | .stmts body=>decide (fd.globals=mainGlobals)&&(fd.closure.isEmpty&&(decide (fd.builtins=builtinsNs)&&(codeIn K fd.code fd.qualname&&(LV d.N d.ps fd.scope&&(mB ⟨T,fd.scope,d.N⟩ d.body body&&
   (fd.params.posonlyargs.isEmpty&&(fd.params.args.map (·.arg) ==d.ps&&(fd.params.kwonlyargs.isEmpty&&(fd.params.vararg.isNone&&(fd.params.kwarg.isNone&&LR K fd d))))))))))
  |_=>false)
 |_=>false
variable {d:ao}
def EZ {f:Addr}(h:EH K T f d=true):we K T f d:=by
 unfold EH at h
 split at h
 ·rename_i oc od fd sl e;obtain ⟨name,qual,params,body,scope,glo,bL,dV,kV,doc,pm,an,cdv,ct,bu⟩:=fd;dsimp only at h
  split at h
  ·rename_i body;simp only[mo,decide_eq_true_eq,isEmpty_iff,Option.isNone_iff_eq_none] at h;obtain ⟨h1,h2,h3,h4,h5,h6,h7,h8,h9,h10,h11,h12⟩:=h;subst h1 h2 h3;have S:=rN h5;have nd:d.ps.Nodup:=by
    rw[<-S.pre];exact S.nd.sublist (take_sublist _ _)
   refine ⟨⟨name,qual,params,body,scope,dV,kV,doc,pm,cdv,ct,oc,od,an,sl,e,h4,S,h6,?_⟩⟩;unfold LR at h12;dsimp only at h12
   split at h12
   ·rw[isEmpty_iff.mp h12];exact Ho (.all λus hl=>qa nd h7 (beq_iff_eq.mp h8) h9 h10 h11 rfl us hl)
   ·rename_i T0;rw[mo] at h12;have h12:=h12.2
    split at h12
    ·rename_i o ho
     split at h12
     ·rename_i items c hs;rw[mo,decide_eq_true_eq] at h12;intro j;refine ⟨items.toList.drop j,?_,mF j (nH h12.1)⟩;refine Bb (n:=d.ps.length-(items.toList.drop j).length) rfl ho hs (by rw[jp];omega) λus hl=>?_
      rw[jp] at hl;obtain ⟨k,k1,k2⟩:=Ag (fd:=fnOf name qual params body scope (.ref T0) kV doc pm an cdv ct) (items:=items) nd h7 (beq_iff_eq.mp h8) h9 h10 h11 rfl us nofun h12.2 nofun;refine ⟨k,k1,?_⟩;rw[k2]
      by_cases e:j<=items.toList.length
      ·rw[show us.length+items.toList.length-d.ps.length=j by omega]
      ·rw[show us.length+items.toList.length-d.ps.length=items.toList.length by omega,List.drop_length,List.drop_eq_nil_of_le (by omega:items.toList.length<=j)]
     ·cases h12
    ·cases h12
   ·cases h12
  ·cases h
 ·cases h
abbrev lF (K:Frag)(T:Tab)(fs:List Addr):Nat->List ao->Bool
 |_,[]=>true
 |n,d::r=>EH K T (fs.getD n 0) d&&lF K T fs (n+1) r
def uJ {K:Frag}{T:Tab}{fs:List Addr}:∀ {l:List ao}{n:Nat},lF K T fs n l=true->uN (λf d=>we K T (fs.getD f 0) d) n l
 | [],_,_=>True.intro
 |d::r,n,h=>by
  unfold lF at h;rw[mo] at h;exact ⟨EZ h.1,uJ h.2⟩
def Dc (h:lF K T fs 0 T.fns=true):∀ f d,T.fns[f]? =some d->we K T (fs.getD f 0) d:=sU (P:=λf d=>we K T (fs.getD f 0) d) (uJ h)
def vf {K:Frag}{T:Tab}{fs:List Addr}:∀ {l:List ao}{n f:Nat}{d:ao},lF K T fs n l=true->l[f]? =some d->EH K T (fs.getD (n+f) 0) d=true
 | [],_,_,_,_,e=>by simp at e
 |a::r,n,0,d,h,e=>by
  unfold lF at h;rw[mo] at h;have:a=d:=by simpa using e
  subst this;exact h.1
 |a::r,n,f+1,d,h,e=>by
  unfold lF at h;rw[mo] at h;have:=vf h.2 (f:=f) (d:=d) (by simpa using e)
  rwa [Nat.add_assoc,Nat.add_comm 1 f] at this
def BR {fl:Nat}(z:lF K T fs 0 T.fns=true)(hd:T.fns[fl]? =some d)(hp:d.ps=[("_law_script":Str)]) (hf:d.dfl=[]):
  ∃ oc od fd sl,K.lookup (fs.getD fl 0)=some ⟨oc,od,.func fd,sl⟩/\∀ (s:Shared) (v:Value),BindsTo s fd ⟨[v],[]⟩ [("_law_script",v)]:=by
 have h:=vf z hd;rw[Nat.zero_add] at h;unfold EH at h
 split at h
 ·rename_i oc od fd sl e;refine ⟨oc,od,fd,sl,e,λs v=>?_⟩
  split at h
  ·rename_i body hb;simp only[mo,decide_eq_true_eq,isEmpty_iff,Option.isNone_iff_eq_none] at h;obtain ⟨h1,h2,h3,h4,h5,h6,h7,h8,h9,h10,h11,h12⟩:=h;have nd:d.ps.Nodup:=by
    rw[<-(rN h5).pre];exact (rN h5).nd.sublist (take_sublist _ _)
   unfold LR at h12;rw[hf] at h12;have e6:fd.defaults=.none:=by
    split at h12
    ·rename_i e;exact e
    ·rw[mo] at h12;cases h12.1
    ·cases h12
   have:=qa nd h7 (beq_iff_eq.mp h8) h9 h10 h11 e6 [v] (by rw[hp];rfl);rw[hp] at this;exact .of_eq this
  ·cases h
 ·cases h
def BI {P:Program}{w:World}{h:Heap}{fa:Addr}{cs:List Addr}{fl k:Nat}(X:K.In h)(G:h.Ns mainGlobals mg)(hfa:mg "law"=some (.ref fa))
  (z1:BE K T fs cs gs=true) (z2:lF K T fs 0 T.fns=true) (z3:EO (nsIn K mainGlobals "law") (fs.getD fl 0)=true) (hd:T.fns[fl]? =some d) (hp:d.ps=[("_law_script":Str)]) (hf:d.dfl=[])
  (ht:∀ vs H Q E,ji K 63 vs H Q E->ab T (G7 K fs cs gs) k fl vs H Q E):
  ∃ fd:FuncData,(∀ (s:Shared) (v:Value),BindsTo s fd ⟨[v],[]⟩ [("_law_script",v)])/\∀ base:Heap,K.In base->base.Ns mainGlobals mg->c9 P w K mg base (yy P w) (2*k) fa fd ["_law_script"] (ji K 63):=by
 have e0:fs.getD fl 0=fa:=by
  have e:=hfa.symm.trans (mg_of X G (f7 z3))
  injection e with e
  injection e with e
  exact e.symm
 have fn:=Dc z2;have tk:=CJ X G z1;have N:=fn fl d hd;have hN:=BR z2 hd;obtain ⟨oc,od,fd,sl,e,hb⟩:=hN hp hf;refine ⟨fd,hb,λbase hb hg=>?_⟩;have F:=Fu (P:=P) (w:=w) (base:=base) (R:=G7 K fs cs gs) tk rfl fn k fl d hd (fd:=fd) (lk:=e) (qV▸ht);rw[hp] at F;rw[<-e0];exact F
abbrev Mf (K:Frag)(a:Addr)(vs:List V):Bool:=match K.lookup a with
 |some ⟨.type t,_,.seq items _,_⟩=>t =="tuple"&&(decide (items.size<=1000)&&yi vs items.toList)
 |_=>false
def E3 {a:Addr}{vs:List V}(h:Mf K a vs=true)(H:Hp):aS K H a vs:=by
 unfold Mf at h
 split at h
 ·rename_i t od items n sl e;simp only[mo,decide_eq_true_eq] at h;refine .inr ⟨_,items,n,e,?_,rfl,?_,nH h.2.2⟩
  ·show Value.type t=_;rw[beq_iff_eq.mp h.1]
  ·exact Nat.le_of_lt (cD h.2.1)
 ·cases h
end L3
namespace L3
open PySem L2
noncomputable abbrev fY.c (e:Ex)(r:fY):fY:=.cons e r
noncomputable abbrev fY.n:fY:=.nil
noncomputable abbrev mM.c (e:Sx)(r:mM):mM:=.cons e r
noncomputable abbrev mM.n:mM:=.nil
noncomputable abbrev A4.c (a b:Nat)(e:mM)(r:A4):A4:=.cons a b e r
noncomputable abbrev A4.n:A4:=.nil
noncomputable abbrev Ex.i (x:Int):Ex:=.int x
noncomputable abbrev Ex.s (x:Str):Ex:=.str x
noncomputable abbrev Ex.k (x:Nat)(e:fY):Ex:=.call x e
noncomputable abbrev Ex.m (a:Ex)(x:Str)(e:fY):Ex:=.meth a x e
noncomputable abbrev Ex.f (c:Tx)(a b:Ex):Ex:=.ife c a b
noncomputable abbrev Ex.q (o:CmpOp)(a b:Ex):Ex:=.cmp o a b
noncomputable abbrev Tx.q (o:CmpOp)(a b:Ex):Tx:=.cmp o a b
noncomputable abbrev Sx.a (x:Nat)(e:Ex):Sx:=.asg x e
noncomputable abbrev Sx.r (e:Ex):Sx:=.ret e
noncomputable abbrev Sx.f (c:Tx)(a b:mM):Sx:=.ife c a b
noncomputable abbrev Sx.e (e:Ex):Sx:=.expr e
end L3
set_option Elab.async false
set_option maxHeartbeats 8000000
open PySem PySem.Spec L2 L3
namespace My
open PySem L2 L3
set_option hygiene false
local macro_rules|`(#[])=>`(.n)|`(#[$x:term])=>`(.c $x .n)|`(#[$x:term,$xs:term,*])=>`(.c $x #[$xs,*])
set_option hygiene true
abbrev cK:ao:=⟨["self","at"],["self","at"],[],#[.e (.bini #[.v 0,.s "no list of 1 to 60 contents"]),.fld (.v 0) "at" (.v 1)]⟩
abbrev dQ:ao:=⟨["self","deed","cell"],["self","deed","cell"],[],#[.e (.bini #[.v 0,.s "a cell that is not there, or may not be looked at or put"]),.fld (.v 0) "deed" (.v 1),.fld (.v 0) "cell" (.v 2)]⟩
abbrev cX:ao:=⟨["self","box","number"],["self","box","number"],[],#[.e (.bini #[.v 0,.s "a box can't hold this"]),.fld (.v 0) "box" (.v 1),.fld (.v 0) "number" (.v 2)]⟩
abbrev ip:ao:=⟨["self","box"],["self","box"],[],#[.e (.bini #[.v 0,.s "no box of that name"]),.fld (.v 0) "box" (.v 1)]⟩
abbrev gY:ao:=⟨["self","word"],["self","word"],[],#[.e (.bini #[.v 0,.s "a deed can't be made of this"]),.fld (.v 0) "word" (.v 1)]⟩
abbrev g8:ao:=⟨["self","at"],["self","at"],[],#[.e (.bini #[.v 0,.s "no list of 1 to 24 deeds"]),.fld (.v 0) "at" (.v 1)]⟩
abbrev gu:ao:=⟨["self","at"],["self","at"],[],#[.e (.bini #[.v 0,.s "no place to stand at"]),.fld (.v 0) "at" (.v 1)]⟩
abbrev cq:ao:=⟨["self","at"],["self","at"],[],#[.e (.bini #[.v 0,.s "a deed that looks at a cell for its way"]),.fld (.v 0) "at" (.v 1)]⟩
abbrev jW:ao:=⟨["thing"],["thing"],[],#[.r (.and (.isi (.v 0) (.ty "int")) (.not (.isi (.v 0) (.ty "bool"))))]⟩
abbrev gz:ao:=⟨["thing"],["thing"],[],#[.r (.and (.k 8 #[.v 0]) (.cmp2 .LtE .LtE (.i 0) (.v 0) (.gl "BOUND")))]⟩
abbrev kU:ao:=⟨["thing"],["thing"],[],#[.r (.and (.isi (.v 0) (.ty "str")) (.q .In (.v 0) (.gl "NAMES")))]⟩
abbrev jq:ao:=⟨["thing"],["thing"],[],#[.r (.and (.k 8 #[.v 0]) (.cmp2 .LtE .LtE (.neg (.gl "BOUND")) (.v 0) (.gl "BOUND")))]⟩
abbrev AK:ao:=⟨["box","thing"],["box","thing"],[],#[.f (.or (.q .Eq (.v 0) (.s "here")) (.q .Eq (.v 0) (.s "there"))) #[.r (.k 11 #[.v 1])] .n,.f (.q .Eq (.v 0) (.s "way")) #[.r (.and (.k 8 #[.v 1]) (.or (.q .Eq (.v 1) (.i 1)) (.q .Eq (.v 1) (.neg (.i 1)))))] .n,.f (.q .Eq (.v 0) (.s "met")) #[.r (.and (.k 8 #[.v 1]) (.or (.q .Eq (.v 1) (.i 0)) (.q .Eq (.v 1) (.i 1))))] .n,.r (.k 9 #[.v 1])]⟩
abbrev dh:ao:=⟨["self","here","there","left","way","sign","met"],["self","here","there","left","way","sign","met","handed","box","number"],[.int 0,.int 0,.int 0,.int 1,.int 0,.int 0],#[.a 7 (.tup #[.v 1,.v 2,.v 3,.v 4,.v 5,.v 6]),.for (.tp [8,9]) (.zip (.gl "NAMES") (.v 7)) #[.f (.not (.val (.k 12 #[.v 8,.v 9]))) #[.rais (.make 3 #[.v 8,.v 9])] .n],.fld (.v 0) "numbers" (.dzip (.gl "NAMES") (.v 7))]⟩
abbrev fH:ao:=⟨["self","box"],["self","box"],[],#[.f (.not (.val (.k 10 #[.v 1]))) #[.rais (.make 4 #[.v 1])] .n,.r (.ix (.fld (.v 0) "numbers") (.v 1))]⟩
abbrev dA:ao:=⟨["self","box","number"],["self","box","number"],[],#[.f (.not (.val (.k 10 #[.v 1]))) #[.rais (.make 4 #[.v 1])] .n,.f (.not (.val (.k 12 #[.v 1,.v 2]))) #[.rais (.make 3 #[.v 1,.v 2])] .n,.sub (.fld (.v 0) "numbers") (.v 1) (.v 2)]⟩
abbrev gZ:ao:=⟨["self"],["self"],[],#[.r (.bf .tuple #[.lc (.ix (.fld (.v 1) "numbers") (.v 0)) [0] (.seq (.gl "NAMES"))])]⟩
abbrev ei:ao:=⟨["self"],["self","other"],[],#[.a 1 (.make 9 .n),.fld (.v 1) "numbers" (.bf .dict #[.fld (.v 0) "numbers"]),.r (.v 1)]⟩
abbrev iZ:ao:=⟨["word","box"],["word","box"],[],#[.f (.not (.val (.k 10 #[.v 1]))) #[.rais (.make 5 #[.v 0])] .n]⟩
abbrev eD:ao:=⟨["word","number"],["word","number"],[],#[.f (.not (.val (.k 11 #[.v 1]))) #[.rais (.make 5 #[.v 0])] .n]⟩
abbrev dY:ao:=⟨["self","box","number"],["self","box","number"],[],#[.e (.k 18 #[.s "set",.v 1]),.e (.k 19 #[.s "set",.v 2]),.fld (.v 0) "box" (.v 1),.fld (.v 0) "number" (.v 2)]⟩
abbrev kB:ao:=⟨["self","boxes","store"],["self","boxes","store"],[],#[.e (.m (.v 1) "give" #[.fld (.v 0) "box",.fld (.v 0) "number"]),.r (.i 1)]⟩
abbrev qZ:ao:=⟨["self"],["self"],[],#[.r (.lst #[.s "set",.fld (.v 0) "box",.bf .str #[.fld (.v 0) "number"]])]⟩
abbrev eE:ao:=⟨["self","box","number"],["self","box","number"],[],#[.e (.k 18 #[.s "add",.v 1]),.e (.k 19 #[.s "add",.v 2]),.fld (.v 0) "box" (.v 1),.fld (.v 0) "number" (.v 2)]⟩
abbrev kI:ao:=⟨["self","boxes","store"],["self","boxes","store"],[],#[.e (.m (.v 1) "give" #[.fld (.v 0) "box",.bin .Add (.m (.v 1) "holds" #[.fld (.v 0) "box"]) (.fld (.v 0) "number")]),.r (.i 1)]⟩
abbrev rh:ao:=⟨["self"],["self"],[],#[.r (.lst #[.s "add",.fld (.v 0) "box",.bf .str #[.fld (.v 0) "number"]])]⟩
abbrev dN:ao:=⟨["self","box","other"],["self","box","other"],[],#[.e (.k 18 #[.s "take",.v 1]),.e (.k 18 #[.s "take",.v 2]),.fld (.v 0) "box" (.v 1),.fld (.v 0) "other" (.v 2)]⟩
abbrev i9:ao:=⟨["self","boxes","store"],["self","boxes","store"],[],#[.e (.m (.v 1) "give" #[.fld (.v 0) "box",.m (.v 1) "holds" #[.fld (.v 0) "other"]]),.r (.i 1)]⟩
abbrev mV:ao:=⟨["self"],["self"],[],#[.r (.lst #[.s "take",.fld (.v 0) "box",.fld (.v 0) "other"])]⟩
abbrev jC:ao:=⟨["self","box"],["self","box"],[],#[.e (.k 18 #[.s "read",.v 1]),.fld (.v 0) "box" (.v 1)]⟩
abbrev pV:ao:=⟨["self","boxes","store"],["self","boxes","store"],[],#[.e (.m (.v 1) "give" #[.fld (.v 0) "box",.m (.v 2) "look" #[.m (.v 1) "holds" #[.s "here"]]]),.r (.i 1)]⟩
abbrev ou:ao:=⟨["self"],["self"],[],#[.r (.lst #[.s "read",.fld (.v 0) "box"])]⟩
abbrev dq:ao:=⟨["self","box"],["self","box"],[],#[.e (.k 18 #[.s "write",.v 1]),.fld (.v 0) "box" (.v 1)]⟩
abbrev gT:ao:=⟨["self","boxes","store"],["self","boxes","store","number"],[],#[.a 3 (.m (.v 1) "holds" #[.fld (.v 0) "box"]),.f (.not (.val (.k 9 #[.v 3]))) #[.rais (.make 3 #[.fld (.v 0) "box",.v 3])] .n,.e (.m (.v 2) "put" #[.m (.v 1) "holds" #[.s "there"],.v 3]),.r (.i 1)]⟩
abbrev lG:ao:=⟨["self"],["self"],[],#[.r (.lst #[.s "write",.fld (.v 0) "box"])]⟩
abbrev nz:ao:=⟨["boxes","box","by"],["boxes","box","by"],[],#[.e (.m (.v 0) "give" #[.v 1,.bin .Add (.m (.v 0) "holds" #[.v 1]) (.v 2)])]⟩
abbrev d6:ao:=⟨["boxes","box"],["boxes","box"],[],#[.e (.k 35 #[.v 0,.v 1,.m (.v 0) "holds" #[.s "way"]])]⟩
abbrev i4:ao:=⟨["boxes","by"],["boxes","by"],[],#[.e (.k 35 #[.v 0,.s "left",.neg (.v 1)]),.r (.f (.q .Eq (.m (.v 0) "holds" #[.s "left"]) (.i 0)) (.i 1) (.i 0))]⟩
abbrev mK:ao:=⟨["store","cell"],["store","cell"],[],#[.f (.not (.val (.m (.v 0) "may" #[.s "put",.v 1]))) #[.rais (.make 2 #[.s "put",.v 1])] .n]⟩
abbrev AO:ao:=⟨["store","source","target"],["store","source","target","content"],[],#[.a 3 (.m (.v 0) "look" #[.v 1]),.e (.m (.v 0) "put" #[.v 2,.v 3])]⟩
abbrev j4:ao:=⟨["store","one","other"],["store","one","other","first","second"],[],#[.a 3 (.m (.v 0) "look" #[.v 1]),.a 4 (.m (.v 0) "look" #[.v 2]),.e (.k 38 #[.v 0,.v 1]),.e (.k 38 #[.v 0,.v 2]),.e (.m (.v 0) "put" #[.v 1,.v 4]),.e (.m (.v 0) "put" #[.v 2,.v 3])]⟩
abbrev iV:ao:=⟨["self","boxes","store"],["self","boxes","store"],[],#[.f (.q .Eq (.m (.v 1) "holds" #[.s "left"]) (.i 0)) #[.r (.i 1)] .n,.e (.k 39 #[.v 2,.m (.v 1) "holds" #[.s "here"],.m (.v 1) "holds" #[.s "there"]]),.e (.k 36 #[.v 1,.s "here"]),.e (.k 36 #[.v 1,.s "there"]),.r (.k 37 #[.v 1,.i 1])]⟩
abbrev mY:ao:=⟨["self"],["self"],[],#[.r (.lst #[.s "copy"])]⟩
abbrev jk:ao:=⟨["self","boxes","store"],["self","boxes","store"],[],#[.f (.q .Eq (.m (.v 1) "holds" #[.s "left"]) (.i 0)) #[.r (.i 1)] .n,.e (.m (.v 2) "put" #[.m (.v 1) "holds" #[.s "there"],.m (.v 1) "holds" #[.s "sign"]]),.e (.k 36 #[.v 1,.s "there"]),.r (.k 37 #[.v 1,.i 1])]⟩
abbrev nA:ao:=⟨["self"],["self"],[],#[.r (.lst #[.s "fill"])]⟩
abbrev qB:ao:=⟨["self","boxes","store"],["self","boxes","store"],[],#[.f (.q .Eq (.m (.v 1) "holds" #[.s "left"]) (.i 0)) #[.e (.m (.v 1) "give" #[.s "met",.i 0]),.r (.i 1)] .n,.f (.q .Eq (.m (.v 2) "look" #[.m (.v 1) "holds" #[.s "here"]]) (.m (.v 1) "holds" #[.s "sign"])) #[.e (.m (.v 1) "give" #[.s "met",.i 1]),.r (.i 1)] .n,.e (.m (.v 1) "give" #[.s "met",.i 0]),.e (.k 36 #[.v 1,.s "here"]),.r (.k 37 #[.v 1,.i 1])]⟩
abbrev nq:ao:=⟨["self"],["self"],[],#[.r (.lst #[.s "seek"])]⟩
abbrev nD:ao:=⟨["self","boxes","store"],["self","boxes","store","content"],[],#[.f (.q .Eq (.m (.v 1) "holds" #[.s "left"]) (.i 0)) #[.e (.m (.v 1) "give" #[.s "met",.i 1]),.r (.i 1)] .n,.a 3 (.m (.v 2) "look" #[.m (.v 1) "holds" #[.s "here"]]),.f (.q .NotEq (.v 3) (.m (.v 2) "look" #[.m (.v 1) "holds" #[.s "there"]])) #[.e (.m (.v 1) "give" #[.s "met",.i 0]),.r (.i 1)] .n,.e (.m (.v 1) "give" #[.s "met",.i 1]),.e (.k 36 #[.v 1,.s "here"]),.e (.k 36 #[.v 1,.s "there"]),.r (.k 37 #[.v 1,.i 1])]⟩
abbrev lM:ao:=⟨["self"],["self"],[],#[.r (.lst #[.s "match"])]⟩
abbrev gI:ao:=⟨["self","boxes","store"],["self","boxes","store","left","here","there"],[],#[.a 3 (.m (.v 1) "holds" #[.s "left"]),.f (.q .Eq (.v 3) (.i 0)) #[.r (.i 1)] .n,.a 4 (.m (.v 1) "holds" #[.s "here"]),.a 5 (.m (.v 1) "holds" #[.s "there"]),.f (.q .LtE (.v 5) (.v 4)) #[.e (.k 39 #[.v 2,.v 4,.v 5]),.e (.k 35 #[.v 1,.s "here",.i 1]),.e (.k 35 #[.v 1,.s "there",.i 1])] #[.e (.k 39 #[.v 2,.bin .Sub (.bin .Add (.v 4) (.v 3)) (.i 1),.bin .Sub (.bin .Add (.v 5) (.v 3)) (.i 1)])],.r (.k 37 #[.v 1,.i 1])]⟩
abbrev lz:ao:=⟨["self"],["self"],[],#[.r (.lst #[.s "shift"])]⟩
abbrev jb:ao:=⟨["self","boxes","store"],["self","boxes","store","left","here"],[],#[.a 3 (.m (.v 1) "holds" #[.s "left"]),.f (.q .Eq (.v 3) (.i 0)) #[.r (.i 1)] .n,.f (.q .Eq (.v 3) (.i 1)) #[.r (.k 37 #[.v 1,.i 1])] .n,.a 4 (.m (.v 1) "holds" #[.s "here"]),.e (.k 40 #[.v 2,.v 4,.bin .Sub (.bin .Add (.v 4) (.v 3)) (.i 1)]),.e (.k 35 #[.v 1,.s "here",.i 1]),.r (.k 37 #[.v 1,.i 2])]⟩
abbrev nN:ao:=⟨["self"],["self"],[],#[.r (.lst #[.s "turn"])]⟩
abbrev ig:ao:=⟨["rows"],["rows","at","thing"],[],#[.f (.or (.not (.val (.isi (.v 0) (.ty "list")))) (.not (.cmp2 .LtE .LtE (.i 1) (.bf .len #[.v 0]) (.gl "MOST_ROWS")))) #[.rais (.make 6 #[.neg (.i 1)])] .n,.for (.tp [1,2]) (.enm (.v 0)) #[.f (.not (.val (.isi (.v 2) (.own 10)))) #[.rais (.make 6 #[.v 1])] .n]]⟩
abbrev fT:ao:=⟨["at","many"],["at","many"],[],#[.f (.or (.not (.val (.k 8 #[.v 0]))) (.not (.cmp2 .LtE .LtE (.i 0) (.v 0) (.v 1)))) #[.rais (.make 7 #[.v 0])] .n]⟩
abbrev tX:ao:=⟨["deed","boxes","store"],["deed","boxes","store","stop","refusal"],[],#[.tryx #[.r (.tup #[.m (.v 0) "step" #[.v 1,.v 2],.non])] (.c 2 3 #[.r (.tup #[.non,.tup #[.fld (.v 3) "deed",.fld (.v 3) "cell"]])] (.c 3 4 #[.r (.tup #[.non,.tup #[.s "fit",.fld (.v 4) "box"]])] .n))]⟩
abbrev cI:ao:=⟨["self","rows","store","boxes","at"],["self","rows","store","boxes","at"],[.int 0],#[.e (.k 53 #[.v 1]),.e (.k 54 #[.v 4,.bf .len #[.v 1]]),.fld (.v 0) "deeds" (.bf .list #[.v 1]),.fld (.v 0) "store" (.m (.v 2) "copied" .n),.fld (.v 0) "boxes" (.m (.v 3) "copied" .n),.fld (.v 0) "at" (.v 4)]⟩
abbrev dW:ao:=⟨["self"],["self"],[],#[.r (.q .Eq (.fld (.v 0) "at") (.bf .len #[.fld (.v 0) "deeds"]))]⟩
abbrev cO:ao:=⟨["self","store"],["self","store","by"],[],#[.f (.val (.m (.v 0) "ended" .n)) #[.r (.s "end")] .n,.a 2 (.ix (.k 55 #[.ix (.fld (.v 0) "deeds") (.fld (.v 0) "at"),.fld (.v 0) "boxes",.v 1]) (.i 0)),.f (.q .Is (.v 2) .non) #[.r (.s "stop")] .n,.fld (.v 0) "at" (.bf .min #[.bin .Add (.fld (.v 0) "at") (.v 2),.bf .len #[.fld (.v 0) "deeds"]]),.r (.s "on")]⟩
abbrev kJ:ao:=⟨["self"],["self"],[],#[.r (.m (.v 0) "step_on" #[.fld (.v 0) "store"])]⟩
abbrev kE:ao:=⟨["self"],["self"],[],#[.r (.lc (.m (.v 0) "words" .n) [] (.seq (.fld (.v 0) "deeds")))]⟩
abbrev iq:ao:=⟨["self"],["self"],[],#[.r (.make 22 #[.fld (.v 0) "deeds",.fld (.v 0) "store",.fld (.v 0) "boxes",.fld (.v 0) "at"])]⟩
abbrev fK:ao:=⟨["cells"],["cells","at","thing"],[],#[.f (.or (.not (.val (.isi (.v 0) (.ty "list")))) (.not (.cmp2 .LtE .LtE (.i 1) (.bf .len #[.v 0]) (.gl "MOST_CELLS")))) #[.rais (.make 1 #[.neg (.i 1)])] .n,.for (.tp [1,2]) (.enm (.v 0)) #[.f (.not (.val (.k 9 #[.v 2]))) #[.rais (.make 1 #[.v 1])] .n]]⟩
abbrev cY:ao:=⟨["self","cells"],["self","cells"],[],#[.e (.k 62 #[.v 1]),.fld (.v 0) "contents" (.bf .list #[.v 1]),.fld (.v 0) "permits" (.bin .Mult (.lst #[.s "open"]) (.bf .len #[.v 1]))]⟩
abbrev nU:ao:=⟨["self"],["self"],[],#[.r (.bf .len #[.fld (.v 0) "contents"])]⟩
abbrev nP:ao:=⟨["self"],["self"],[],#[.r (.bf .list #[.fld (.v 0) "contents"])]⟩
abbrev qu:ao:=⟨["self","deed","cell"],["self","deed","cell"],[],#[.f (.not (.cmp2 .LtE .Lt (.i 0) (.v 2) (.m (.v 0) "size" .n))) #[.r (.bl false)] .n,.f (.q .Eq (.ix (.fld (.v 0) "permits") (.v 2)) (.s "look")) #[.r (.q .Eq (.v 1) (.s "look"))] .n,.r (.q .Eq (.ix (.fld (.v 0) "permits") (.v 2)) (.s "open"))]⟩
abbrev m9:ao:=⟨["self","cell"],["self","cell"],[],#[.f (.not (.val (.m (.v 0) "may" #[.s "look",.v 1]))) #[.rais (.make 2 #[.s "look",.v 1])] .n,.r (.ix (.fld (.v 0) "contents") (.v 1))]⟩
abbrev pI:ao:=⟨["self","cell","content"],["self","cell","content"],[],#[.f (.not (.val (.m (.v 0) "may" #[.s "put",.v 1]))) #[.rais (.make 2 #[.s "put",.v 1])] .n,.sub (.fld (.v 0) "contents") (.v 1) (.v 2)]⟩
abbrev dZ:ao:=⟨["self"],["self","other"],[],#[.a 1 (.make 23 #[.lst #[.i 0]]),.fld (.v 1) "contents" (.bf .list #[.fld (.v 0) "contents"]),.fld (.v 1) "permits" (.bf .list #[.fld (.v 0) "permits"]),.r (.v 1)]⟩
abbrev cu:ao:=⟨["deed"],["deed"],[],#[.r (.isiT (.v 0) [18,19,14])]⟩
abbrev fM:ao:=⟨["rows"],["rows","at","deed"],[],#[.for (.tp [1,2]) (.enm (.v 0)) #[.f (.val (.k 70 #[.v 2])) #[.rais (.make 8 #[.v 1])] .n]]⟩
abbrev cF:ao:=⟨["self","size"],["self","size"],[],#[.fld (.v 0) "sources" (.lc (.tup #[.s "cell",.v 0]) [] (.rng1 (.v 1)))]⟩
abbrev fJ:ao:=⟨["self","deed","cell"],["self","deed","cell"],[],#[.r (.cmp2 .LtE .Lt (.i 0) (.v 2) (.bf .len #[.fld (.v 0) "sources"]))]⟩
abbrev d9:ao:=⟨["self","cell"],["self","cell"],[],#[.f (.not (.val (.m (.v 0) "may" #[.s "look",.v 1]))) #[.rais (.make 2 #[.s "look",.v 1])] .n,.r (.ix (.fld (.v 0) "sources") (.v 1))]⟩
abbrev fN:ao:=⟨["self","cell","thing"],["self","cell","thing"],[],#[.f (.not (.val (.m (.v 0) "may" #[.s "put",.v 1]))) #[.rais (.make 2 #[.s "put",.v 1])] .n,.sub (.fld (.v 0) "sources") (.v 1) (.f (.val (.isi (.v 2) (.ty "tuple"))) (.v 2) (.tup #[.s "number",.v 2]))]⟩
abbrev eL:ao:=⟨["self"],["self"],[],#[.r (.bf .list #[.fld (.v 0) "sources"])]⟩
abbrev mq:ao:=⟨["rows","boxes","size"],["rows","boxes","size","machine","origins","told"],[],#[.e (.k 53 #[.v 0]),.e (.k 71 #[.v 0]),.a 3 (.make 22 #[.v 0,.make 23 #[.lst #[.i 0]],.v 1]),.a 4 (.make 24 #[.v 2]),.a 5 (.lst #[.tup #[.m (.v 1) "told" .n,.m (.v 4) "told" .n]]),.whl (.q .Eq (.m (.v 3) "step_on" #[.v 4]) (.s "on")) #[.e (.lm .append (.v 5) #[.tup #[.m (.fld (.v 3) "boxes") "told" .n,.m (.v 4) "told" .n]])],.r (.v 5)]⟩
abbrev iW:ao:=⟨["told","bell"],["told","bell"],[],#[.r (.ix (.v 0) (.bf .min #[.v 1,.bin .Sub (.bf .len #[.v 0]) (.i 1)]))]⟩
abbrev hX:ao:=⟨["origin","cells"],["origin","cells"],[],#[.r (.f (.q .Eq (.ix (.v 0) (.i 0)) (.s "cell")) (.ix (.v 1) (.ix (.v 0) (.i 1))) (.ix (.v 0) (.i 1)))]⟩
abbrev jc:ao:=⟨["one","other"],["one","other","at","box"],[],#[.for (.tp [2,3]) (.enf (.gl "NAMES")) #[.f (.q .NotEq (.ix (.v 0) (.v 2)) (.ix (.v 1) (.v 2))) #[.r (.v 3)] .n],.r .non]⟩
abbrev gM:ao:=⟨["one","other","cells"],["one","other","cells","cell"],[],#[.for (.nm 3) (.rng1 (.bf .len #[.v 2])) #[.f (.q .NotEq (.k 79 #[.ix (.v 0) (.v 3),.v 2]) (.k 79 #[.ix (.v 1) (.v 3),.v 2])) #[.r (.v 3)] .n],.r .non]⟩
abbrev dU:ao:=⟨["size"],["size","stores","cell"],[],#[.a 1 (.lst #[.bin .Mult (.lst #[.i 0]) (.v 0)]),.for (.nm 2) (.rng3 (.bin .Sub (.v 0) (.i 1)) (.neg (.i 1)) (.neg (.i 1))) #[.e (.lm .append (.v 1) #[.bin .Add (.bin .Add (.bin .Mult (.lst #[.i 0]) (.v 2)) (.lst #[.i 1])) (.bin .Mult (.lst #[.i 0]) (.bin .Sub (.bin .Sub (.v 0) (.v 2)) (.i 1)))])],.r (.v 1)]⟩
abbrev fP:ao:=⟨["one","other"],["one","other"],[],#[.r (.ix (.lci (.v 0) (.q .IsNot (.k 81 #[.v 1,.v 2,.v 0]) .non) [0,1] (.seq (.k 82 #[.bf .len #[.v 0]]))) (.i 0))]⟩
abbrev qI:ao:=⟨["bell","one","other"],["bell","one","other","box","cells"],[],#[.a 3 (.k 80 #[.ix (.v 1) (.i 0),.ix (.v 2) (.i 0)]),.f (.q .IsNot (.v 3) .non) #[.r (.tup #[.s "parted",.v 0,.bin .Mult (.lst #[.i 0]) (.bf .len #[.ix (.v 1) (.i 1)]),.tup #[.s "box",.v 3]])] .n,.a 4 (.k 83 #[.ix (.v 1) (.i 1),.ix (.v 2) (.i 1)]),.r (.tup #[.s "parted",.v 0,.v 4,.tup #[.s "cell",.k 81 #[.ix (.v 1) (.i 1),.ix (.v 2) (.i 1),.v 4]]])]⟩
abbrev t8:ao:=⟨["one","other","boxes","size"],["one","other","boxes","size","first","second","bell","left","right"],[],#[.a 4 (.k 77 #[.v 0,.v 2,.v 3]),.a 5 (.k 77 #[.v 1,.v 2,.v 3]),.for (.nm 6) (.rng1 (.bf .max #[.bf .len #[.v 4],.bf .len #[.v 5]])) #[.a 7 (.k 78 #[.v 4,.v 6]),.a 8 (.k 78 #[.v 5,.v 6]),.f (.q .NotEq (.v 7) (.v 8)) #[.r (.k 84 #[.v 6,.v 7,.v 8])] .n],.r (.tup #[.s "alike"])]⟩
abbrev mj:ao:=⟨["thing"],["thing"],[],#[.r (.and (.k 8 #[.v 0]) (.cmp2 .LtE .LtE (.i 0) (.v 0) (.gl "MOST_HOPPED")))]⟩
abbrev vB:ao:=⟨["thing"],["thing"],[],#[.r (.or (.q .Is (.v 0) .non) (.and (.k 8 #[.v 0]) (.or (.q .Eq (.v 0) (.i 0)) (.q .Eq (.v 0) (.i 1)))))]⟩
abbrev eh:ao:=⟨["self","many","on"],["self","many","on"],[.non],#[.f (.or (.not (.val (.k 86 #[.v 1]))) (.not (.val (.k 87 #[.v 2])))) #[.rais (.make 5 #[.s "hop"])] .n,.fld (.v 0) "many" (.v 1),.fld (.v 0) "on" (.v 2)]⟩
abbrev kg:ao:=⟨["self","boxes","store"],["self","boxes","store"],[],#[.f (.or (.q .Is (.fld (.v 0) "on") .non) (.q .Eq (.fld (.v 0) "on") (.m (.v 1) "holds" #[.s "met"]))) #[.r (.bin .Add (.i 1) (.fld (.v 0) "many"))] .n,.r (.i 1)]⟩
abbrev rB:ao:=⟨["self"],["self","told"],[],#[.a 1 (.lst #[.s "hop",.bf .str #[.fld (.v 0) "many"]]),.f (.q .IsNot (.fld (.v 0) "on") .non) #[.e (.lm .extend (.v 1) #[.lst #[.s "if",.bf .str #[.fld (.v 0) "on"]]])] .n,.r (.v 1)]⟩
abbrev jg:ao:=⟨["_law_script"],["_law_script","_law_cells_here","_law_fold","_law_cell"],[],#[.a 1 (.bf .list #[.sl (.v 0) .no (.yes (.i 63))]),.a 2 (.bf .len #[.v 1]),.for (.nm 3) (.seq (.v 1)) #[.a 2 (.bin .Mod (.bin .Add (.bin .Add (.bin .Mult (.v 2) (.i 48271)) (.bin .Mod (.v 3) (.i 2147483647))) (.i 1)) (.i 2147483629))],.r (.lst #[.v 1,.v 2,.i 0,.i 0,.i 0])]⟩
abbrev jd:ao:=⟨["_law_hand_here","_law_many"],["_law_hand_here","_law_many","_law_rest","_law_cell","_law_one","_law_two"],[],#[.augS (.v 0) (.i 4) .Add (.i 1),.a 2 (.ix (.v 0) (.i 3)),.a 3 (.ix (.v 0) (.i 1)),.f (.q .Gt (.v 2) (.i 0)) #[.sub (.v 0) (.i 3) (.bin .FloorDiv (.v 2) (.v 1)),.r (.bin .Mod (.v 2) (.v 1))] .n,.f (.q .Lt (.ix (.v 0) (.i 2)) (.bf .len #[.ix (.v 0) (.i 0)])) #[.a 3 (.ix (.ix (.v 0) (.i 0)) (.ix (.v 0) (.i 2))),.augS (.v 0) (.i 2) .Add (.i 1),.f (.q .GtE (.v 3) (.bin .Pow (.i 10) (.i 18))) #[.sub (.v 0) (.i 3) (.bin .FloorDiv (.v 3) (.v 1)),.r (.bin .Mod (.v 3) (.v 1))] .n] .n,.a 4 (.bin .Mod (.bin .Pow (.bin .Add (.bin .Mod (.v 3) (.i 998244353)) (.bin .Mult (.i 7919) (.ix (.v 0) (.i 4)))) (.i 5)) (.i 2147483647)),.a 5 (.bin .Mod (.bin .Pow (.bin .Add (.bin .Add (.v 4) (.bin .Mult (.i 104729) (.ix (.v 0) (.i 4)))) (.ix (.v 0) (.i 1))) (.i 3)) (.i 2147483629)),.r (.bin .Mod (.bin .FloorDiv (.v 5) (.i 7)) (.v 1))]⟩
abbrev e9:ao:=⟨["_law_hand_here"],["_law_hand_here","_law_way"],[],#[.a 1 (.k 92 #[.v 0,.i 4]),.f (.q .Eq (.v 1) (.i 0)) #[.r (.k 92 #[.v 0,.i 3])] .n,.f (.q .Eq (.v 1) (.i 1)) #[.r (.bin .Sub (.bin .Pow (.i 10) (.i 9)) (.k 92 #[.v 0,.i 2]))] .n,.f (.q .Eq (.v 1) (.i 2)) #[.r (.k 92 #[.v 0,.i 100])] .n,.r (.bin .Mod (.bin .Add (.bin .Mult (.k 92 #[.v 0,.i 100000]) (.i 10001)) (.k 92 #[.v 0,.i 10001])) (.bin .Add (.bin .Pow (.i 10) (.i 9)) (.i 1)))]⟩
abbrev jn:ao:=⟨["_law_hand_here","_law_many"],["_law_hand_here","_law_many","_law_way"],[],#[.a 2 (.k 92 #[.v 0,.i 8]),.f (.q .Lt (.v 2) (.i 4)) #[.r (.k 92 #[.v 0,.v 1])] .n,.f (.q .Lt (.v 2) (.i 6)) #[.r (.ix (.lst #[.i 0,.bin .Sub (.v 1) (.i 1)]) (.bin .Sub (.v 2) (.i 4)))] .n,.f (.q .Eq (.v 2) (.i 6)) #[.r (.ix (.lst #[.bin .Sub (.neg (.i 1)) (.k 92 #[.v 0,.i 3]),.bin .Add (.v 1) (.k 92 #[.v 0,.i 3])]) (.k 92 #[.v 0,.i 2]))] .n,.r (.ix (.lst #[.bin .Sub (.bin .Pow (.i 10) (.i 9)) (.k 92 #[.v 0,.i 2]),.bin .Sub (.k 92 #[.v 0,.i 2]) (.bin .Pow (.i 10) (.i 9)),.k 92 #[.v 0,.v 1]]) (.k 92 #[.v 0,.i 3]))]⟩
abbrev gk:ao:=⟨["_law_hand_here","_law_cells_here"],["_law_hand_here","_law_cells_here","_law_many","_law_way","_law_left","_law_sign","_law_here","_law_there"],[],#[.a 2 (.bf .len #[.v 1]),.a 3 (.k 92 #[.v 0,.i 8]),.a 4 (.ix (.lst #[.k 92 #[.v 0,.bin .Add (.v 2) (.i 1)],.k 92 #[.v 0,.i 4],.bin .Add (.v 2) (.k 92 #[.v 0,.i 3])]) (.bin .Mod (.v 3) (.i 3))),.f (.q .Eq (.v 3) (.i 7)) #[.a 4 (.bin .Sub (.bin .Pow (.i 10) (.i 9)) (.k 92 #[.v 0,.i 2]))] .n,.a 5 (.ix (.lst #[.ix (.v 1) (.k 92 #[.v 0,.v 2]),.k 93 #[.v 0]]) (.bin .FloorDiv (.k 92 #[.v 0,.i 4]) (.i 3))),.a 6 (.k 94 #[.v 0,.v 2]),.a 7 (.k 94 #[.v 0,.v 2]),.a 3 (.bin .Sub (.i 1) (.bin .Mult (.i 2) (.k 92 #[.v 0,.i 2]))),.r (.disp ["here","there","left","way","sign","met"] #[.v 6,.v 7,.v 4,.v 3,.v 5,.k 92 #[.v 0,.i 2]])]⟩
abbrev i5:ao:=⟨["_law_hand_here","_law_size"],["_law_hand_here","_law_size","_law_way","_law_names","_law_box","_law_pick"],[],#[.a 2 (.k 92 #[.v 0,.i 14]),.a 3 (.lst #[.s "here",.s "there",.s "left",.s "way",.s "sign",.s "met"]),.a 4 (.ix (.v 3) (.k 92 #[.v 0,.i 6])),.f (.q .Lt (.v 2) (.i 6)) #[.r (.tup #[.ix (.lst #[.s "copy",.s "fill",.s "copy",.s "turn",.s "shift",.s "turn"]) (.v 2)])] .n,.f (.q .Lt (.v 2) (.i 9)) #[.a 4 (.ix (.lst #[.s "here",.s "there",.s "left",.v 4]) (.k 92 #[.v 0,.i 4])),.a 5 (.bin .FloorDiv (.k 92 #[.v 0,.i 8]) (.i 3)),.r (.tup #[.s "set",.v 4,.ix (.lst #[.k 92 #[.v 0,.bin .Add (.v 1) (.i 1)],.bin .Sub (.k 92 #[.v 0,.i 5]) (.i 2),.bin .Sub (.bin .Pow (.i 10) (.i 9)) (.k 92 #[.v 0,.i 2])]) (.v 5)])] .n,.f (.q .Eq (.v 2) (.i 9)) #[.a 5 (.bin .FloorDiv (.k 92 #[.v 0,.i 7]) (.i 3)),.r (.tup #[.s "add",.v 4,.ix (.lst #[.bin .Sub (.k 92 #[.v 0,.i 7]) (.i 3),.k 92 #[.v 0,.bin .Add (.v 1) (.i 1)],.neg (.bin .Pow (.i 10) (.i 9))]) (.v 5)])] .n,.f (.q .Eq (.v 2) (.i 10)) #[.r (.tup #[.s "take",.v 4,.ix (.v 3) (.k 92 #[.v 0,.i 6])])] .n,.f (.q .Lt (.v 2) (.i 13)) #[.r (.tup #[.s "write",.v 4])] .n,.r (.tup #[.s "hop",.k 92 #[.v 0,.i 4],.ix (.lst #[.non,.i 0,.i 1]) (.k 92 #[.v 0,.i 3])])]⟩
abbrev iX:ao:=⟨["_law_spec_here"],["_law_spec_here","_law_word"],[],#[.a 1 (.ix (.v 0) (.i 0)),.f (.q .Eq (.v 1) (.s "set")) #[.r (.make 11 #[.ix (.v 0) (.i 1),.ix (.v 0) (.i 2)])] .n,.f (.q .Eq (.v 1) (.s "add")) #[.r (.make 12 #[.ix (.v 0) (.i 1),.ix (.v 0) (.i 2)])] .n,.f (.q .Eq (.v 1) (.s "take")) #[.r (.make 13 #[.ix (.v 0) (.i 1),.ix (.v 0) (.i 2)])] .n,.f (.q .Eq (.v 1) (.s "write")) #[.r (.make 15 #[.ix (.v 0) (.i 1)])] .n,.f (.q .Eq (.v 1) (.s "hop")) #[.r (.make 25 #[.ix (.v 0) (.i 1),.ix (.v 0) (.i 2)])] .n,.f (.q .Eq (.v 1) (.s "copy")) #[.r (.mk0 16)] .n,.f (.q .Eq (.v 1) (.s "fill")) #[.r (.mk0 17)] .n,.f (.q .Eq (.v 1) (.s "shift")) #[.r (.mk0 20)] .n,.r (.mk0 21)]⟩
abbrev gK:ao:=⟨["_law_spec_here","_law_boxes_here"],["_law_spec_here","_law_boxes_here","_law_here","_law_there","_law_left","_law_word","_law_far"],[],#[.par [2,3,4] #[.ix (.v 1) (.s "here"),.ix (.v 1) (.s "there"),.ix (.v 1) (.s "left")],.a 5 (.ix (.v 0) (.i 0)),.f (.q .Eq (.v 5) (.s "write")) #[.r (.tup #[.lst .n,.lst #[.v 3]])] .n,.f (.or (.q .Eq (.v 4) (.i 0)) (.and (.q .Eq (.v 5) (.s "turn")) (.q .Eq (.v 4) (.i 1)))) #[.r (.tup #[.lst .n,.lst .n])] .n,.f (.q .Eq (.v 5) (.s "copy")) #[.r (.tup #[.lst #[.v 2],.lst #[.v 3]])] .n,.f (.q .Eq (.v 5) (.s "fill")) #[.r (.tup #[.lst .n,.lst #[.v 3]])] .n,.f (.q .Eq (.v 5) (.s "shift")) #[.a 6 (.ix (.lst #[.bin .Sub (.v 4) (.i 1),.i 0]) (.bf .int #[.q .LtE (.v 3) (.v 2)])),.r (.tup #[.lst #[.bin .Add (.v 2) (.v 6)],.lst #[.bin .Add (.v 3) (.v 6)]])] .n,.f (.q .Eq (.v 5) (.s "turn")) #[.r (.tup #[.lst #[.v 2,.bin .Sub (.bin .Add (.v 2) (.v 4)) (.i 1)],.lst #[.v 2,.bin .Sub (.bin .Add (.v 2) (.v 4)) (.i 1)]])] .n,.r (.tup #[.lst .n,.lst .n])]⟩
abbrev i7:ao:=⟨["_law_box","_law_number"],["_law_box","_law_number"],[],#[.f (.or (.q .Eq (.v 0) (.s "here")) (.q .Eq (.v 0) (.s "there"))) #[.r (.cmp2 .LtE .LtE (.neg (.bin .Pow (.i 10) (.i 9))) (.v 1) (.bin .Pow (.i 10) (.i 9)))] .n,.f (.or (.q .Eq (.v 0) (.s "left")) (.q .Eq (.v 0) (.s "sign"))) #[.r (.cmp2 .LtE .LtE (.i 0) (.v 1) (.bin .Pow (.i 10) (.i 9)))] .n,.f (.q .Eq (.v 0) (.s "way")) #[.r (.or (.q .Eq (.v 1) (.i 1)) (.q .Eq (.v 1) (.neg (.i 1))))] .n,.r (.or (.q .Eq (.v 1) (.i 0)) (.q .Eq (.v 1) (.i 1)))]⟩
abbrev bV:ao:=⟨["_law_spec_here","_law_boxes_here","_law_size"],["_law_spec_here","_law_boxes_here","_law_size","_law_looks","_law_puts","_law_cell"],[],#[.f (.and (.q .Eq (.ix (.v 0) (.i 0)) (.s "write")) (.not (.cmp2 .LtE .LtE (.i 0) (.ix (.v 1) (.ix (.v 0) (.i 1))) (.bin .Pow (.i 10) (.i 9))))) #[.r (.tup #[.s "fit",.ix (.v 0) (.i 1),.ix (.v 1) (.ix (.v 0) (.i 1))])] .n,.asgT [3,4] (.k 98 #[.v 0,.v 1]),.for (.nm 5) (.seq (.v 3)) #[.f (.not (.cmp2 .LtE .Lt (.i 0) (.v 5) (.v 2))) #[.r (.tup #[.s "look",.v 5,.i 0])] .n],.for (.nm 5) (.seq (.v 4)) #[.f (.not (.cmp2 .LtE .Lt (.i 0) (.v 5) (.v 2))) #[.r (.tup #[.s "put",.v 5,.i 0])] .n],.r .non]⟩
abbrev i8:ao:=⟨["_law_spec_here","_law_boxes_here","_law_cells_here"],["_law_spec_here","_law_boxes_here","_law_cells_here","_law_barred_here","_law_word","_law_number"],[],#[.a 3 (.k 100 #[.v 0,.v 1,.bf .len #[.v 2]]),.f (.q .IsNot (.v 3) .non) #[.r (.v 3)] .n,.a 4 (.ix (.v 0) (.i 0)),.f (.q .In (.v 4) (.tup #[.s "set",.s "add",.s "take"])) #[.a 5 (.ix (.v 0) (.neg (.i 1))),.f (.q .Eq (.v 4) (.s "add")) #[.a 5 (.bin .Add (.ix (.v 1) (.ix (.v 0) (.i 1))) (.v 5))] .n,.f (.q .Eq (.v 4) (.s "take")) #[.a 5 (.ix (.v 1) (.ix (.v 0) (.i 2)))] .n,.f (.not (.val (.k 99 #[.ix (.v 0) (.i 1),.v 5]))) #[.r (.tup #[.s "fit",.ix (.v 0) (.i 1),.v 5])] .n,.sub (.v 1) (.ix (.v 0) (.i 1)) (.v 5),.r (.tup #[.s "on",.i 1,.i 0])] .n,.f (.q .Eq (.v 4) (.s "write")) #[.sub (.v 2) (.ix (.v 1) (.s "there")) (.ix (.v 1) (.ix (.v 0) (.i 1))),.r (.tup #[.s "on",.i 1,.i 0])] .n,.f (.q .Eq (.v 4) (.s "hop")) #[.r (.tup #[.s "on",.bin .Add (.i 1) (.bin .Mult (.ix (.v 0) (.i 1)) (.bf .int #[.or (.q .Is (.ix (.v 0) (.i 2)) .non) (.q .Eq (.ix (.v 0) (.i 2)) (.ix (.v 1) (.s "met")))])),.i 0])] .n,.r (.tup #[.s "on",.k 102 #[.v 4,.v 1,.v 2],.i 0])]⟩
abbrev g6:ao:=⟨["_law_word","_law_boxes_here","_law_cells_here"],["_law_word","_law_boxes_here","_law_cells_here","_law_here","_law_there","_law_left","_law_way","_law_size","_law_content_here"],[],#[.par [3,4,5] #[.ix (.v 1) (.s "here"),.ix (.v 1) (.s "there"),.ix (.v 1) (.s "left")],.a 6 (.ix (.v 1) (.s "way")),.f (.q .Eq (.v 5) (.i 0)) #[.r (.i 1)] .n,.a 7 (.i 1),.f (.q .Eq (.v 0) (.s "copy")) #[.sub (.v 2) (.v 4) (.ix (.v 2) (.v 3)),.sub (.v 1) (.s "here") (.bin .Add (.v 3) (.v 6)),.sub (.v 1) (.s "there") (.bin .Add (.v 4) (.v 6))] .n,.f (.q .Eq (.v 0) (.s "fill")) #[.sub (.v 2) (.v 4) (.ix (.v 1) (.s "sign")),.sub (.v 1) (.s "there") (.bin .Add (.v 4) (.v 6))] .n,.f (.and (.q .Eq (.v 0) (.s "shift")) (.q .LtE (.v 4) (.v 3))) #[.sub (.v 2) (.v 4) (.ix (.v 2) (.v 3)),.sub (.v 1) (.s "here") (.bin .Add (.v 3) (.i 1)),.sub (.v 1) (.s "there") (.bin .Add (.v 4) (.i 1))] #[.f (.q .Eq (.v 0) (.s "shift")) #[.sub (.v 2) (.bin .Sub (.bin .Add (.v 4) (.v 5)) (.i 1)) (.ix (.v 2) (.bin .Sub (.bin .Add (.v 3) (.v 5)) (.i 1)))] .n],.f (.and (.q .Eq (.v 0) (.s "turn")) (.q .Gt (.v 5) (.i 1))) #[.a 7 (.i 2),.a 8 (.ix (.v 2) (.v 3)),.sub (.v 2) (.v 3) (.ix (.v 2) (.bin .Sub (.bin .Add (.v 3) (.v 5)) (.i 1))),.sub (.v 2) (.bin .Sub (.bin .Add (.v 3) (.v 5)) (.i 1)) (.v 8),.sub (.v 1) (.s "here") (.bin .Add (.v 3) (.i 1))] .n,.sub (.v 1) (.s "left") (.bin .Sub (.v 5) (.v 7)),.r (.bf .int #[.q .Eq (.ix (.v 1) (.s "left")) (.i 0)])]⟩
abbrev ja:ao:=⟨["_law_hand_here","_law_size"],["_law_hand_here","_law_size","_law_many"],[],#[.a 2 (.bin .Add (.i 1) (.k 92 #[.v 0,.ix (.lst #[.i 3,.i 8,.i 8,.i 24]) (.k 92 #[.v 0,.i 4])])),.r (.lc (.k 96 #[.v 1,.v 2]) [0,1] (.rng1 (.v 2)))]⟩
abbrev gR:ao:=⟨["_law_six_here"],["_law_six_here"],[],#[.r (.make 9 #[.ix (.v 0) (.s "here"),.ix (.v 0) (.s "there"),.ix (.v 0) (.s "left"),.ix (.v 0) (.s "way"),.ix (.v 0) (.s "sign"),.ix (.v 0) (.s "met")])]⟩
abbrev kX:ao:=⟨["_law_specs","_law_six_here","_law_cells_here"],["_law_specs","_law_six_here","_law_cells_here","_law_boxes_here","_law_at_here","_law_told","_law_due"],[],#[.a 3 (.bf .dict #[.v 1]),.a 2 (.bf .list #[.v 2]),.a 4 (.i 0),.a 5 (.lst #[.tup #[.vals true (.v 3),.bf .list #[.v 2]]]),.whl (.q .Lt (.v 4) (.bf .len #[.v 0])) #[.a 6 (.k 101 #[.ix (.v 0) (.v 4),.v 3,.v 2]),.f (.q .NotEq (.ix (.v 6) (.i 0)) (.s "on")) #[.r (.v 5)] .n,.a 4 (.bin .Add (.v 4) (.ix (.v 6) (.i 1))),.e (.lm .append (.v 5) #[.tup #[.vals true (.v 3),.bf .list #[.v 2]]])],.r (.v 5)]⟩
abbrev jo:ao:=⟨["_law_hand_here","_law_specs","_law_size"],["_law_hand_here","_law_specs","_law_size","_law_k","_law_way","_law_at_here","_law_other"],[],#[.a 1 (.bf .list #[.v 1]),.for (.nm 3) (.rng1 (.ix (.lst #[.i 0,.i 1,.i 1,.i 2]) (.k 92 #[.v 0,.i 4]))) #[.a 4 (.k 92 #[.v 0,.i 5]),.a 5 (.k 92 #[.v 0,.bf .len #[.v 1]]),.f (.q .Eq (.v 4) (.i 0)) #[.sub (.v 1) (.v 5) (.k 96 #[.v 0,.v 2])] .n,.f (.and (.q .Eq (.v 4) (.i 1)) (.q .Gt (.v 5) (.i 0))) #[.a 1 (.bin .Add (.bin .Add (.sl (.v 1) .no (.yes (.bin .Sub (.v 5) (.i 1)))) (.lst #[.ix (.v 1) (.v 5),.ix (.v 1) (.bin .Sub (.v 5) (.i 1))])) (.sl (.v 1) (.yes (.bin .Add (.v 5) (.i 1))) .no))] .n,.f (.q .Eq (.v 4) (.i 2)) #[.a 6 (.ix (.lst #[.tup #[.s "copy"],.tup #[.s "turn"]]) (.k 92 #[.v 0,.i 2])),.sub (.v 1) (.v 5) (.dget (.disp ["copy","shift","turn"] #[.tup #[.s "shift"],.v 6,.tup #[.s "shift"]]) (.ix (.ix (.v 1) (.v 5)) (.i 0)) (.ix (.v 1) (.v 5)))] .n,.f (.and (.q .Eq (.v 4) (.i 3)) (.and (.q .Eq (.ix (.ix (.v 1) (.v 5)) (.i 0)) (.s "hop")) (.q .Eq (.ix (.ix (.v 1) (.v 5)) (.i 1)) (.i 0)))) #[.sub (.v 1) (.v 5) (.tup #[.s "add",.s "way",.i 0])] .n,.f (.and (.q .Eq (.v 4) (.i 4)) (.q .Lt (.bf .len #[.v 1]) (.i 24))) #[.e (.lm .insert (.v 1) #[.v 5,.ix (.lst #[.tup #[.s "hop",.i 0,.non],.tup #[.s "take",.s "sign",.s "sign"]]) (.k 92 #[.v 0,.i 2])])] .n],.r (.v 1)]⟩
abbrev gC:ao:=⟨["_law_hand_here","_law_specs","_law_size"],["_law_hand_here","_law_specs","_law_size","_law_ahead"],[],#[.a 3 (.lst #[.tup #[.s "set",.s "here",.k 92 #[.v 0,.v 2]],.tup #[.s "set",.s "there",.k 92 #[.v 0,.v 2]]]),.e (.lm .append (.v 3) #[.tup #[.s "set",.s "left",.k 92 #[.v 0,.bin .Add (.v 2) (.i 1)]]]),.f (.q .Gt (.k 92 #[.v 0,.i 3]) (.i 0)) #[.a 1 (.bin .Add (.sl (.v 3) (.yes (.k 92 #[.v 0,.i 3])) .no) (.sl (.v 1) .no (.yes (.i 21))))] .n,.r (.v 1)]⟩
abbrev mi:ao:=⟨["_law_told","_law_bell"],["_law_told","_law_bell"],[],#[.r (.ix (.v 0) (.bf .min #[.v 1,.bin .Sub (.bf .len #[.v 0]) (.i 1)]))]⟩
abbrev cQ:ao:=⟨["_law_first","_law_second","_law_bell"],["_law_first","_law_second","_law_bell","_law_k"],[],#[.for (.nm 3) (.rng1 (.v 2)) #[.f (.q .NotEq (.k 108 #[.v 0,.v 3]) (.k 108 #[.v 1,.v 3])) #[.r (.bl false)] .n],.r (.bl true)]⟩
abbrev cp:ao:=⟨["_law_left","_law_right"],["_law_left","_law_right","_law_box","_law_one","_law_other","_law_cell"],[],#[.for (.tp [2,3,4]) (.zip3 (.lst #[.s "here",.s "there",.s "left",.s "way",.s "sign",.s "met"]) (.ix (.v 0) (.i 0)) (.ix (.v 1) (.i 0))) #[.f (.q .NotEq (.v 3) (.v 4)) #[.r (.tup #[.s "box",.v 2])] .n],.for (.nm 5) (.rng1 (.bf .len #[.ix (.v 0) (.i 1)])) #[.f (.q .NotEq (.ix (.ix (.v 0) (.i 1)) (.v 5)) (.ix (.ix (.v 1) (.i 1)) (.v 5))) #[.r (.tup #[.s "cell",.v 5])] .n],.r (.tup #[.s "none",.i 0])]⟩
abbrev fh:ao:=⟨["_law_told","_law_specs","_law_more","_law_six_here","_law_stores"],["_law_told","_law_specs","_law_more","_law_six_here","_law_stores","_law_runs","_law_word","_law_bell","_law_cells_here","_law_thing","_law_first","_law_second","_law_one","_law_two"],[],#[.a 5 (.lc (.tup #[.k 105 #[.v 1,.v 2,.v 0],.k 105 #[.v 3,.v 2,.v 0]]) [1,3,2] (.seq (.v 4))),.f (.q .Eq (.v 0) (.tup #[.s "alike"])) #[.r (.bf .all #[.lct (.k 109 #[.v 0,.v 1,.bf .max #[.bf .len #[.v 0],.bf .len #[.v 1]]]) 2 [] (.seq (.v 5))])] .n,.f (.or (.q .NotEq (.bf .len #[.v 0]) (.i 4)) (.or (.q .NotEq (.ix (.v 0) (.i 0)) (.s "parted")) (.not (.val (.isi (.ix (.v 0) (.i 2)) (.ty "list")))))) #[.r (.bl false)] .n,.asgT [6,7,8,9] (.v 0),.f (.or (.val (.isi (.v 7) (.ty "bool"))) (.or (.not (.val (.isi (.v 7) (.ty "int")))) (.or (.q .Lt (.v 7) (.i 0)) (.q .NotEq (.bf .len #[.v 8]) (.bf .len #[.ix (.v 4) (.i 0)]))))) #[.r (.bl false)] .n,.f (.not (.val (.bf .all #[.lc (.and (.not (.isi (.v 0) (.ty "bool"))) (.and (.isi (.v 0) (.ty "int")) (.cmp2 .LtE .LtE (.i 0) (.v 0) (.bin .Pow (.i 10) (.i 9))))) [] (.seq (.v 8))]))) #[.r (.bl false)] .n,.a 10 (.k 105 #[.v 1,.v 3,.v 8]),.a 11 (.k 105 #[.v 2,.v 3,.v 8]),.for (.tp [12,13]) (.seq (.bin .Add (.v 5) (.lst #[.tup #[.v 10,.v 11]]))) #[.f (.or (.q .Gt (.v 7) (.bf .max #[.bf .len #[.v 12],.bf .len #[.v 13]])) (.not (.val (.k 109 #[.v 12,.v 13,.v 7])))) #[.r (.bl false)] .n],.r (.q .Eq (.k 110 #[.k 108 #[.v 10,.v 7],.k 108 #[.v 11,.v 7]]) (.v 9))]⟩
abbrev vx:ao:=⟨["_law_script"],["_law_script","_law_hand_here","_law_other","_law_size","_law_six_here","_law_specs","_law_more","_law_stores","_law_told"],[],#[.a 1 (.k 91 #[.v 0]),.a 2 (.k 92 #[.v 1,.i 4]),.a 3 (.bin .Add (.i 1) (.k 92 #[.v 1,.ix (.lst #[.i 3,.i 8,.i 24]) (.k 92 #[.v 1,.i 3])])),.a 4 (.k 95 #[.v 1,.lc (.k 93 #[.v 1]) [1] (.rng1 (.v 3))]),.a 5 (.k 107 #[.v 1,.k 103 #[.v 1,.v 3],.v 3]),.a 6 (.k 106 #[.v 1,.v 5,.v 3]),.f (.q .Eq (.v 2) (.i 0)) #[.a 6 (.k 103 #[.v 1,.v 3])] .n,.a 7 (.lst #[.lc (.bin .Add (.bin .Mult (.i 7) (.v 0)) (.i 1)) [] (.rng1 (.v 3)),.lc (.k 93 #[.v 1]) [1] (.rng1 (.v 3))]),.a 8 (.k 85 #[.lc (.k 97 #[.v 0]) [] (.seq (.v 5)),.lc (.k 97 #[.v 0]) [] (.seq (.v 6)),.k 104 #[.v 4],.v 3]),.r (.and (.isi (.v 8) (.ty "tuple")) (.k 111 #[.v 8,.v 5,.v 6,.v 4,.v 7]))]⟩
abbrev tab:Tab where
  fns:=(cK::dQ::cX::ip::gY::g8::gu::cq::jW::gz::kU::jq::AK::dh::fH::dA::gZ::ei::iZ::eD::dY::kB::qZ::eE::kI::rh::dN::i9::mV::jC::pV::ou::dq::gT::lG::nz::d6::i4::mK::AO::j4::iV::mY::jk::nA::qB::nq::nD::lM::gI::lz::jb::nN::ig::fT::tX::cI::dW::cO::kJ::kE::iq::fK::cY::nU::nP::qu::m9::pI::dZ::cu::fM::cF::fJ::d9::fN::eL::mq::iW::hX::jc::gM::dU::fP::qI::t8::mj::vB::eh::kg::rB::jg::jd::e9::jn::gk::i5::iX::gK::i7::bV::i8::g6::ja::gR::kX::jo::gC::mi::cQ::cp::fh::vx::[])
  gfn:=(("is_whole",8)::("is_content",9)::("is_box",10)::("is_number",11)::("fits",12)::("check_box",18)::("check_number",19)::("more",35)::("go_by_way",36)::("less_left",37)::("ask_put",38)::("haul",39)::("exchange",40)::("check_rows",53)::("check_place",54)::("tried",55)::("check_cells",62)::("looks_for_its_way",70)::("check_blind",71)::("shadows",77)::("shadow_at",78)::("content_of",79)::("first_box",80)::("first_cell",81)::("stores_to_try",82)::("least_store",83)::("parted",84)::("alike",85)::("is_many",86)::("is_on",87)::("_law_hand",91)::("_law_draw",92)::("_law_content",93)::("_law_spot",94)::("_law_six",95)::("_law_spec",96)::("_law_deed",97)::("_law_reach",98)::("_law_fits",99)::("_law_barred",100)::("_law_step",101)::("_law_moved",102)::("_law_rows",103)::("_law_boxes",104)::("_law_run",105)::("_law_twin",106)::("_law_begun",107)::("_law_at",108)::("_law_same_up_to",109)::("_law_first_unlike",110)::("_law_held",111)::("law",112)::[])
  gcl:=[("HaulError",0),("NoStore",1),("Stop",2),("NoFit",3),("NoBox",4),("NoDeed",5),("NoRows",6),("NoPlace",7),("NotBlind",8),("Boxes",9),("Deed",10),("Set",11),("Add",12),("Take",13),("Read",14),("Write",15),("Copy",16),("Fill",17),("Seek",18),("Match",19),("Shift",20),("Turn",21),("Machine",22),("Store",23),("Origins",24),("Hop",25)]
  gbl:=["all","bool","dict","enumerate","int","isinstance","len","list","max","min","range","str","tuple","zip"]
  gbi:=["HaulError"]
  na:=[(1,"at"),(2,"cell"),(2,"deed"),(3,"box"),(3,"number"),(4,"box"),(5,"word"),(6,"at"),(7,"at"),(8,"at"),(9,"numbers"),(11,"box"),(11,"number"),(12,"box"),(12,"number"),(13,"box"),(13,"other"),(14,"box"),(15,"box"),(22,"at"),(22,"boxes"),(22,"deeds"),(22,"store"),(23,"contents"),(23,"permits"),(24,"sources"),(25,"many"),(25,"on")]
  me:=(((9,"copied"),17)::((9,"give"),15)::((9,"holds"),14)::((9,"told"),16)::((11,"step"),21)::((11,"words"),22)::((12,"step"),24)::((12,"words"),25)::((13,"step"),27)::((13,"words"),28)::((14,"step"),30)::((14,"words"),31)::((15,"step"),33)::((15,"words"),34)::((16,"step"),41)::((16,"words"),42)::((17,"step"),43)::((17,"words"),44)::((18,"step"),45)::((18,"words"),46)::((19,"step"),47)::((19,"words"),48)::((20,"step"),49)::((20,"words"),50)::((21,"step"),51)::((21,"words"),52)::((22,"copied"),61)::((22,"ended"),57)::((22,"rows"),60)::((22,"step"),59)::((22,"step_on"),58)::((23,"copied"),69)::((23,"look"),67)::((23,"may"),66)::((23,"put"),68)::((23,"size"),64)::((23,"told"),65)::((24,"look"),74)::((24,"may"),73)::((24,"put"),75)::((24,"told"),76)::((25,"step"),89)::((25,"words"),90)::[])
  ini:=[(1,0),(2,1),(3,2),(4,3),(5,4),(6,5),(7,6),(8,7),(9,13),(11,20),(12,23),(13,26),(14,29),(15,32),(22,56),(23,63),(24,72),(25,88)]
  ini0:=[]
  inip:=[16,17,20,21]
  oc:=[9,10,11,12,13,14,15,16,17,18,19,20,21,22,23,24,25]
  xc:=[0,1,2,3,4,5,6,7,8]
  sub:=(((0,3),false)::((0,2),false)::((1,3),false)::((1,2),false)::((2,3),false)::((2,2),true)::((3,3),true)::((3,2),false)::((4,3),false)::((4,2),false)::((5,3),false)::((5,2),false)::((6,3),false)::((6,2),false)::((7,3),false)::((7,2),false)::((8,3),false)::((8,2),false)::((9,10),false)::((9,19),false)::((9,14),false)::((9,18),false)::((10,10),true)::((10,19),false)::((10,14),false)::((10,18),false)::((11,10),true)::((11,19),false)::((11,14),false)::((11,18),false)::((12,10),true)::((12,19),false)::((12,14),false)::((12,18),false)::((13,10),true)::((13,19),false)::((13,14),false)::((13,18),false)::((14,10),true)::((14,19),false)::((14,14),true)::((14,18),false)::((15,10),true)::((15,19),false)::((15,14),false)::((15,18),false)::((16,10),true)::((16,19),false)::((16,14),false)::((16,18),false)::((17,10),true)::((17,19),false)::((17,14),false)::((17,18),false)::((18,10),true)::((18,19),false)::((18,14),false)::((18,18),true)::((19,10),true)::((19,19),true)::((19,14),false)::((19,18),false)::((20,10),true)::((20,19),false)::((20,14),false)::((20,18),false)::((21,10),true)::((21,19),false)::((21,14),false)::((21,18),false)::((22,10),false)::((22,19),false)::((22,14),false)::((22,18),false)::((23,10),false)::((23,19),false)::((23,14),false)::((23,18),false)::((24,10),false)::((24,19),false)::((24,14),false)::((24,18),false)::((25,10),true)::((25,19),false)::((25,14),false)::((25,18),false)::[])
  subT:=[]
  subB:=((("NoneType","bool"),false)::(("NoneType","int"),false)::(("NoneType","list"),false)::(("NoneType","str"),false)::(("NoneType","tuple"),false)::(("bool","bool"),true)::(("bool","int"),true)::(("bool","list"),false)::(("bool","str"),false)::(("bool","tuple"),false)::(("int","bool"),false)::(("int","int"),true)::(("int","list"),false)::(("int","str"),false)::(("int","tuple"),false)::(("str","bool"),false)::(("str","int"),false)::(("str","list"),false)::(("str","str"),true)::(("str","tuple"),false)::(("list","bool"),false)::(("list","int"),false)::(("list","list"),true)::(("list","str"),false)::(("list","tuple"),false)::(("tuple","bool"),false)::(("tuple","int"),false)::(("tuple","list"),false)::(("tuple","str"),false)::(("tuple","tuple"),true)::(("dict","bool"),false)::(("dict","int"),false)::(("dict","list"),false)::(("dict","str"),false)::(("dict","tuple"),false)::[])
  subO:=[]
/-- what the proofs ask of the addresses -/
structure Ro (K:W.Frag) (R:Rt):Prop where
  hK:R.K=K
  g_BOUND:R.gl "BOUND"=some (.int 1000000000)
  g_MOST_ROWS:R.gl "MOST_ROWS"=some (.int 24)
  g_MOST_CELLS:R.gl "MOST_CELLS"=some (.int 60)
  g_MOST_HOPPED:R.gl "MOST_HOPPED"=some (.int 24)
  g_NAMES:∃ a,R.gl "NAMES"=some (.ref a)/\∀ H,aS K H a [.str "here",.str "there",.str "left",.str "way",.str "sign",.str "met"]
end My
set_option Elab.async false
set_option maxHeartbeats 8000000
namespace My
open PySem L2 L3
open L2.V renaming ref→ut,int→v4,str→wf,non→wl
open L2.HO renaming lst→wn,tup→wp,ins→wr
local macro_rules|`(tactic|delta $x:ident)=>`(tactic|refine wc (d:=$x) nofun rfl rfl ?_)
variable {h a d dx D:Addr}{m i c l at_:Int}{ns cs':List Int}{n N:Nat}{v:V}{xs vs ds ss ys:List V}{α:Type}{ws:List Str}{G:Gx}{A:aq}{P:V->Prop}{sp:Sp}{o:Option Int}{Δ':List aq}{φ:Int->V}{te:TE}{I:Nat->Addr->List V->Hp->Prop}{H3:Hp}{rest:St}
section
variable {K:W.Frag}{R:Rt}{k:Nat}{H:Hp}{Q:VK}{E:XK}{O Γ' Δ:List aq}
local macro_rules| `(tactic|walk_at "w")=>`(tactic|conv=>whnf)
local macro_rules| `(tactic|left)=>`(tactic|walk_at "w")
local macro_rules| `(tactic|symm)=>`(tactic|((with_reducible (repeat (first|exact af.e|apply af.t)));done))
local macro_rules| `(tactic|ac_rfl)=>`(tactic|((with_reducible (repeat (first|exact aI.e|apply aI.t)));done))
local macro_rules| `(tactic|ac_nf)=>`(tactic|first|(with_reducible exact Sub.refl)|(refine' Sub.cons ?h ?r;(case h=>symm);(case r=>ac_nf))|(with_reducible exact Sub.nil)|(with_reducible apply Sub.drop;(ac_nf)))
local macro_rules| `(tactic|walk_at "sp")=>`(tactic|(refine Sep.sub ?_ (by with_reducible assumption);(ac_nf)))
local macro_rules| `(tactic|grind)=>`(tactic|first|exact Sep.get (by with_reducible assumption) (by symm)|exact Sep.bT (by with_reducible assumption) (by symm))
local macro_rules| `(tactic|walk_at "ar")=>`(tactic|first|lia|omega|decide|exact ol rfl|(unfold pL;omega)|(unfold Cj;omega)|(unfold Cj;decide)|(unfold pL;decide)|(simp only[ci,length_set,length_replicate];omega))
local macro_rules| `(tactic|walk_at "ls")=>`(tactic|first|(conv=>lhs;simp only[List.set_cons_succ,List.set_cons_zero,Int.reduceToNat])|rfl)
local macro_rules| `(tactic|walk_at "pf")=>`(tactic|first|(conv=>lhs;simp (decide:=true) only [cM,if_true,if_false])|rfl)
local macro_rules| `(tactic|walk_at "st")=>`(tactic|first
  |(with_reducible refine And.intro rfl ?_)
  |(with_reducible refine aN rfl ?_)
  |(with_reducible refine aw rfl ?_)
  |(with_reducible refine Gp ?_)
  |((with_reducible refine' aJ ?e ?v ?_);(case e=>grind);(case v=>exact rfl))
  |((with_reducible refine' c7 ?e ?v ?_);(case e=>grind);(case v=>exact rfl))
  |((with_reducible refine' Ja ?e ?i ?v ?_);(case e=>grind);(case i=>omega);(case v=>exact rfl))
  |(with_reducible refine so rfl ?_)
  |(with_reducible refine zv rfl ?_)
  |((with_reducible refine' aO ?e ?_);(case e=>grind))
  |((with_reducible refine' tY ?e ?_);(case e=>grind))
  |((with_reducible refine' dO ?s ?r ?j ?x (λH hs=>?_));(case s=>with_reducible assumption);(case r=>ac_rfl);(case j=>exact rfl);(case x=>walk_at "ls"))
  |((with_reducible refine' iI ?s ?l (λp H hs=>?_));(case s=>with_reducible assumption);(case l=>exact ol rfl))
  |((with_reducible refine' aY ?s ?l (λp H hs=>?_));(case s=>with_reducible assumption);(case l=>exact ol rfl))
  |((with_reducible refine' al_dct ?s (λp H hs=>?_));(case s=>with_reducible assumption))
  |((with_reducible refine' sN ?e ?_);(case e=>grind))
  |((with_reducible refine' Gh ?e ?_);(case e=>grind))
  |((with_reducible refine' kN ?s ?e ?f ?l (λp H hs=>?_));(case s=>with_reducible assumption);(case e=>grind);(case f=>grind);(case l=>walk_at "ar"))
  |((with_reducible refine' Ej ?s ?e ?f ?g ?l (λp H hs=>?_));(case s=>with_reducible assumption);(case e=>grind);(case f=>walk_at "ar");(case g=>walk_at "ar");(case l=>walk_at "ar"))
  |((with_reducible refine' Lv ?s ?r ?o ?n ?l ?x (λH hs=>?_));(case s=>with_reducible assumption);(case r=>ac_rfl);(case o=>exact rfl);(case n=>exact rfl);(case l=>walk_at "ar");(case x=>walk_at "pf"))
  |((with_reducible refine' bY ?e ?o ?n ?l ?_);(case e=>grind);(case o=>exact rfl);(case n=>exact rfl);(case l=>exact rfl))
  |((with_reducible refine' JG ?e ?o ?n ?l ?_);(case e=>grind);(case o=>exact rfl);(case n=>exact rfl);(case l=>exact rfl))
  |((with_reducible refine' isi_x ?e ?o ?b ?_);(case e=>grind);(case o=>exact rfl);(case b=>exact rfl))
  |((with_reducible refine' isi_xt ?e ?o ?b ?_);(case e=>grind);(case o=>exact rfl);(case b=>exact rfl))
  |((with_reducible refine' d4 ?t ?b ?_);(case t=>exact rfl);(case b=>exact rfl))
  |((with_reducible refine' jI ?a ?b ?_);(case a=>exact rfl);(case b=>exact rfl))
  |((with_reducible refine' uS ?a ?b ?_);(case a=>exact rfl);(case b=>exact rfl))
  |((with_reducible refine' dw ?s ?e (λp H hs=>?_));(case s=>with_reducible assumption);(case e=>grind))
  |((with_reducible refine' LF ?s ?e (λp H hs=>?_));(case s=>with_reducible assumption);(case e=>grind))
  |(refine And.intro (by walk_at "ar") ?_))
local macro_rules| `(tactic|walk_at "go")=>`(tactic|(walk_at "w";repeat (walk_at "st";walk_at "w")))
local macro_rules| `(tactic|right)=>`(tactic|walk_at "go")
abbrev hand (h:Addr)(m:Int):aq:=ex λx:Addr×List Int×Int×Int×Int×Int=>pk (pt h (wn [ut x.1,v4 x.2.2.1,v4 x.2.2.2.1,v4 x.2.2.2.2.1,v4 x.2.2.2.2.2])) (pk (pt x.1 (wn (x.2.1.map v4)))
 (pu (x.2.1.length<=63/\0<=x.2.2.1/\x.2.2.1<2147483629/\0<=x.2.2.2.1/\0<=x.2.2.2.2.1/\0<=x.2.2.2.2.2/\x.2.2.2.2.2<=m)))
def zH (s:Sep (hand h m::O) H):∃ (c:Addr) (ns:List Int) (fo i r n:Int),Sep (pt h (wn [ut c,v4 fo,v4 i,v4 r,v4 n])::pt c (wn (ns.map v4))::O) H/\ns.length<=63/\0<=fo/\fo<2147483629/\0<=i/\0<=r/\0<=n/\n<=m:=by
 obtain ⟨⟨c,ns,fo,i,r,n⟩,s⟩:=Sep.HR.mp s;have s2:=Sep.star.mp ((Sep.star.mp s).pull .k1);have p:=(s2.pull .k1).pure;exact ⟨c,ns,fo,i,r,n,((s2.pull .k1).drop).pull .k1,p⟩
def iO {c:Addr}{fo r n:Int}(s:Sep (pt h (wn [ut c,v4 fo,v4 i,v4 r,v4 n])::pt c (wn (ns.map v4))::O) H)(p:ns.length<=63/\0<=fo/\fo<2147483629/\0<=i/\0<=r/\0<=n/\n<=m):Sep (hand h m::O) H:=by
 refine Sep.HR.mpr ⟨⟨c,ns,fo,i,r,n⟩,Sep.star.mpr ?_⟩;exact (Sep.star.mpr (((s.pull .k1).pull .e |> λs=>(Sep.Az p s).pull .k1))).pull .k1
def JZ:(10:Int) ^ Int.toNat 18=1000000000000000000:=by decide
def zi {n:Int}(hk:1<=k)(s:Sep (hand h m::O) H)(hm:m<=1099511627776)(hn0:0<n)(hn1:n<1073741824)
  (q:∀ (r:Int) (H':Hp),0<=r->r<n->Sep (hand h (m+1)::O) H'->Q (v4 r) H'):ab tab R k 92 [ut h,v4 n] H Q E:=by
 obtain ⟨c,ns,fo,i,r,j,hs,h63,f0,f1,i0,r0,k0,k1⟩:=zH s;clear s;have nn:n≠0:=by omega
 delta jd;right;refine aA (λhr=>?_) (λhr=>?_)
 ·right;rename_i H1 hs1 H2 hs2;exact q _ _ (Int.emod_nonneg _ nn) (Int.emod_lt_of_pos _ hn0) (iO hs2 ⟨h63,f0,f1,i0,Int.ediv_nonneg r0 nofun,by omega,by omega⟩)
 right;refine aA (λhc=>?_) (λhc=>?_)
 ·right;obtain ⟨z,hz⟩:∃ z,j7 (ns.map v4) i=some (v4 z):=x8 i0 (by rw[ci] at hc;exact hc);refine aJ (by grind) hz ?_;right;refine aA (λhz18=>?_) (λhz18=>?_)
  ·rw[JZ] at hz18;right;rename_i H1 hs1 H2 hs2 H3 hs3;exact q _ _ (Int.emod_nonneg _ nn) (Int.emod_lt_of_pos _ hn0) (iO hs3 ⟨h63,f0,f1,by omega,Int.ediv_nonneg nofun nofun,by omega,by omega⟩)
  ·right;rename_i H1 hs1 H2 hs2;exact q _ _ (Int.emod_nonneg _ nn) (Int.emod_lt_of_pos _ hn0) (iO hs2 ⟨h63,f0,f1,by omega,r0,by omega,by omega⟩)
 ·right;rename_i H1 hs1;exact q _ _ (Int.emod_nonneg _ nn) (Int.emod_lt_of_pos _ hn0) (iO hs1 ⟨h63,f0,f1,by omega,r0,by omega,by omega⟩)
def G5 (hk:1<=k)(s:Sep O H)(hS:bc R.K H a (ns.map v4))(h63:ns.length<=63)(q:∀ h H',Sep (hand h 0::O) H'->Q (ut h) H'):ab tab R k 91 [ut a] H Q E:=by
 delta jg;right;refine LZ s hS (λp H1 hs1=>?_);rw[Jm ns h63] at hs1;right;rename_i c H2 hs2;refine jP (xs:=ns.map v4) (λj U H=>∃ (fo:Int) (v:Option V),U=[some (ut a),some (ut c),some (v4 fo),v]/\0<=fo/\fo<2147483629/\Sep (pt c (wn (ns.map v4))::pt p (wn (ns.map v4))::O) H) ?_ ?_ ?_ ?_
 ·exact ⟨_,none,rfl,by rw[ci];omega,by rw[ci];omega,hs2⟩
 ·rintro j U H ⟨fo,v,rfl,h0,h2,hs⟩;exact bc.of hs.at
 ·rintro j x U H hx ⟨fo,v,rfl,h0,h2,hs⟩;obtain ⟨z,rfl⟩:=tm hx;right;exact ⟨_,_,rfl,by omega,by omega,hs⟩
 ·rintro U H ⟨fo,v,rfl,h0,h2,hs⟩;right;rename_i l H3 hs3;exact q l _ (iO ((hs3.pull .k2).drop) ⟨h63,h0,h2,by omega,by omega,by omega,by omega⟩)
def aj {n:Int}(s:Sep (hand h m::O) H)(e:m<=n):Sep (hand h n::O) H:=by
 obtain ⟨c,ns,fo,i,r,j,hs,h63,f0,f1,i0,r0,k0,k1⟩:=zH s;exact iO hs ⟨h63,f0,f1,i0,r0,k0,by omega⟩
inductive Kd (H:Hp):V->String->Prop where
 |non:Kd H wl "NoneType"
 |bl (b:Bool):Kd H (.bl b) "bool"
 |int (i:Int):Kd H (v4 i) "int"
 |str (x:Str):Kd H (wf x) "str"
 |lst {a:Addr}{xs:List V}(e:H a=some (wn xs)):Kd H (ut a) "list"
 |tup {a:Addr}{xs:List V}(e:H a=some (wp xs)):Kd H (ut a) "tuple"
 |dct {a:Addr}{kvs:List (Key×V)}(e:H a=some (.dK kvs)):Kd H (ut a) "dict"
def jt {t:String}(h:tyName v H=some t):Kd H v t:=by
 unfold tyName at h
 split at h
 ·cases h;exact .non
 ·cases h;exact .bl _
 ·cases h;exact .int _
 ·cases h;exact .str _
 ·split at h
  ·rename_i e;cases h;exact .lst e
  ·rename_i e;cases h;exact .tup e
  ·rename_i e;cases h;exact .dct e
  ·cases h
 ·cases h
abbrev Gn:V->Bool
 | v4 _=>true
 |_=>false
abbrev dD:V->Bool
 | v4 i=>decide (0<=i)&&decide (i<=1000000000)
 |_=>false
def a8 {t:String}(hk:1<=k)(ht:tyName v H=some t)(q:Q (.bl (Gn v)) H):ab tab R k 8 [v] H Q E:=by
 delta jW;right;cases jt ht
 all_goals
  refine d4 ht rfl ?_;right
  first
   |exact q
   |(refine d4 ht rfl ?_;right;exact q)
def cA {t:String}(ro:Ro K R)(hk:2<=k)(ht:tyName v H=some t)(q:Q (.bl (dD v)) H):ab tab R k 9 [v] H Q E:=by
 delta gz;right;refine a8 nofun ht ?_;cases jt ht
 case int i=>
  right;refine aA (λh0=>?_) (λh0=>?_)
  ·left;simp only[ro.g_BOUND];right;have e:dD (v4 i)=decide (i<=1000000000):=by simp[dD,h0]
   rw[e] at q;exact q
  ·right;have e:dD (v4 i)=false:=by simp[dD,h0]
   rw[e] at q;exact q
 all_goals
  right;exact q
abbrev bad (xs:List V):Option Int:=if xs.length<1\/60<xs.length then some (-1) else (xs.findIdx? λx=>!dD x).map λn=>(n:Int)
def FE (h:¬ (1<=xs.length/\xs.length<=60)):bad xs=some (-1):=by
 unfold bad;rw[if_pos nofun]
def FI {j:Nat}{x:V}(h:1<=xs.length/\xs.length<=60)(hx:xs[j]? =some x)(hc:dD x=false)(hb:∀ i y,i<j->xs[i]? =some y->dD y=true):bad xs=some j:=by
 unfold bad;rw[if_neg nofun];have:xs.findIdx? (λx=>!dD x)=some j:=by
  rw[List.findIdx?_eq_some_iff_getElem];obtain ⟨hj,e⟩:=sK.mp hx;refine ⟨hj,by rw[e,hc];rfl,λi hi=>?_⟩;rw[hb i xs[i] hi (li _)]
  decide
 rw[this]
 rfl
def pJ (h:1<=xs.length/\xs.length<=60)(hb:∀ (i:Nat) y,xs[i]? =some y->dD y=true):bad xs=none:=by
 unfold bad;rw[if_neg nofun];have:xs.findIdx? (λx=>!dD x)=none:=by
  rw[List.findIdx?_eq_none_iff];intro x hx;obtain ⟨i,hi⟩:=List.mem_iff_getElem?.mp hx;rw[hb i x hi]
  rfl
 rw[this]
 rfl
def Cv (h:bad xs=none):1<=xs.length/\xs.length<=60:=by
 unfold bad at h
 split at h
 ·cases h
 ·omega
def Dy {x:V}:(sw (Int.toNat (n:Int)) [x]).flatten=sw n x:=by
 rw[re]
 induction n with
 |zero=>rfl
 |succ n ih=>rw[replicate_succ,flatten_cons,ih];rfl
abbrev lC (C:Addr)(fs:List (Str×V))(x:Addr)(fr:Bool):aq:=ex λd:Addr=>pk (pt x (.exc C (some d) fs fr)) (pt d (.own x))
def iU {C x:Addr}{fs:List (Str×V)}{fr:Bool}(s:Sep (pt x (.exc C (some d) fs fr)::pt d (.own x)::O) H):Sep (lC C fs x fr::O) H:=Sep.HR.mpr ⟨d,Sep.star.mpr s⟩
def EE {C x:Addr}{fs:List (Str×V)}{fr:Bool}(s:Sep (lC C fs x fr::O) H):∃ d,Sep (pt x (.exc C (some d) fs fr)::pt d (.own x)::O) H:=let ⟨d,s⟩:=Sep.HR.mp s;⟨d,Sep.star.mp s⟩
def eB {x:Addr}(hk:1<=k)(s:Sep (pt x (.exc (R.cad 1) none [] true)::O) H)(q:∀ d H',Sep (pt x (.exc (R.cad 1) (some d) [("at",v)] true)::pt d (.own x)::O) H'->Q wl H'):ab tab R k 0 [ut x,v] H Q E:=by
 delta cK;right;refine ⟨_,1,_,_,_,_,rfl,by grind,rfl,?_⟩;right;refine uZ s rfl rfl (λd H hs=>?_);right;exact q d H hs
def DF (ro:Ro K R)(hk:3<=k)(s:Sep (pt a (wn xs)::tys xs::O) H)(q0:bad xs=none->∀ H',Sep (pt a (wn xs)::tys xs::O) H'->Q wl H')
  (q1:∀ at',bad xs=some at'->∀ x H',Sep (lC (R.cad 1) [("at",v4 at')] x false::pt a (wn xs)::tys xs::O) H'->E x H'):ab tab R k 62 [ut a] H Q E:=by
 delta fK;right;refine d4 (t:="list") (E6 s.at) rfl ?_;right
 by_cases hl:1<=xs.length/\xs.length<=60
 ·refine aN (decide_eq_true nofun) ?_;left;simp only[ro.g_MOST_CELLS];right;refine aN (c:=decide ((xs.length:Int)<=60)) (decide_eq_true nofun) ?_;right;refine oh (xs:=xs) (λj U H=>∃ y z,U=[some (ut a),y,z]/\(∀ i w,i<j->xs[i]? =some w->dD w=true)/\Sep (pt a (wn xs)::tys xs::O) H) ?_ ?_ ?_ ?_
  ·exact ⟨none,none,rfl,λi w h=>absurd h nofun,s⟩
  ·rintro j U H ⟨y,z,rfl,_,hs⟩;exact hs.at
  ·rintro j x T U H hx ⟨y,z,rfl,hb,hs⟩ hT;have hs1:=hs.iK (xs:=[v4 j,x]) hT;left;refine ⟨T,_,rfl,.inl (aS.of hs1.atT),rfl,?_⟩;right;obtain ⟨t,ht⟩:=(hs1.pull .k2).IY x (db hx);refine cA ro nofun ht ?_;right;refine iw (λhc=>?_) (λhc=>?_)
   ·right;refine ⟨_,_,rfl,λi w hi hw=>?_,hs1.drop⟩
    by_cases e:i=j
    ·subst e;rw[hx] at hw;cases hw;exact hc
    ·exact hb i w nofun hw
   ·right;intro p hp;refine eB nofun (hs1.drop.new hp) (λd H hs=>?_);right;refine eP hs (by ac_rfl) rfl (λH hs=>?_);exact q1 _ (FI hl hx hc hb) p H (iU hs)
  ·rintro U H ⟨y,z,rfl,hb,hs⟩;right;exact q0 (pJ hl λi w hi=>hb i w (sK.mp hi).1 hi) _ hs
 ·have fin:∀ p,H p=none->ab tab R (k-1) 0 [ut p,v4 (-1)] (upd H p (.exc (R.cad 1) none [] true)) (λv H2=>v=wl/\∃ b i dx fs,ut p=ut b/\H2 b=some (.exc (R.cad i) dx fs true)/\tab.xc.contains i=true/\E b (upd H2 b (.exc (R.cad i) dx fs false))) E:=by
   intro p hp;refine eB nofun (s.new hp) (λd H hs=>?_);refine ⟨rfl,?_⟩;refine eP (G:=⟨tab,R,ab tab R 0,true⟩) hs (by ac_rfl) rfl (λH hs=>?_);exact q1 _ (FE hl) p H (iU hs)
  by_cases h1:1<=xs.length
  ·refine aN (decide_eq_true nofun) ?_;left;simp only[ro.g_MOST_CELLS];right;refine aw (c:=decide ((xs.length:Int)<=60)) (decide_eq_false nofun) ?_;right;exact fin
  ·refine aw (decide_eq_false nofun) ?_;right;exact fin
abbrev gh (C p:Addr)(cs ws:List V):aq:=ex λx:Addr×Addr×Addr=>pk (pt p (wr C x.1 [("contents",ut x.2.1),("permits",ut x.2.2)])) (pk (pt x.1 (.own p)) (pk (pt x.2.1 (wn cs)) (pt x.2.2 (wn ws))))
def rj {C p:Addr}{cs ws:List V}(s:Sep (gh C p cs ws::O) H):∃ dx a b,Sep (pt p (wr C dx [("contents",ut a),("permits",ut b)])::pt dx (.own p)::pt a (wn cs)::pt b (wn ws)::O) H:=by
 obtain ⟨⟨dx,a,b⟩,s⟩:=Sep.HR.mp s;refine ⟨dx,a,b,?_⟩;have s1:=Sep.star.mp s;have s2:=Sep.star.mp (s1.pull .k1);have s3:=Sep.star.mp (s2.pull .k1);exact ((s3.pull .k2).pull .k3)
def kA {C p b:Addr}{cs ws:List V}(s:Sep (pt p (wr C dx [("contents",ut a),("permits",ut b)])::pt dx (.own p)::pt a (wn cs)::pt b (wn ws)::O) H):Sep (gh C p cs ws::O) H:=by
 refine Sep.HR.mpr ⟨(dx,a,b),Sep.star.mpr ?_⟩;have s3:=Sep.star.mpr ((s.pull .k3).pull .k3);have s2:=Sep.star.mpr (s3.pull .k2);exact s2.pull .k1
def pf {p:Addr}(ro:Ro K R)(hk:4<=k)(s:Sep (pt p (wr (R.cad 23) dx [])::pt dx (.own p)::pt a (wn xs)::tys xs::O) H)
  (q0:bad xs=none->∀ H',Sep (gh (R.cad 23) p xs (sw xs.length (wf "open"))::pt a (wn xs)::tys xs::O) H'->Q wl H')
  (q1:∀ at',bad xs=some at'->∀ x H',Sep (lC (R.cad 1) [("at",v4 at')] x false::pt a (wn xs)::tys xs::O) H'->E x H'):ab tab R k 63 [ut p,ut a] H Q E:=by
 delta cY;right;refine DF (O:=pt p (wr (R.cad 23) dx [])::pt dx (.own p)::O) ro nofun (s.sub (by ac_nf)) (λhb H hs=>?_) (λat' hb x H hs=>?_)
 ·have hl:=Cv hb;right;rename_i l H1 hs1 H2 hs2 m H3 hs3 w H4 hs4 H5 hs5;rw[Dy] at hs5;exact q0 hb _ (kA (hs5.sub (by ac_nf)))
 ·exact q1 at' hb x H (hs.sub (by ac_nf))
def aF {xs:List α}{x:α}(h0:0<=i)(hx:xs[i.toNat]? =some x):j7 xs i=some x:=by
 have h:=L2.dv hx
 rwa [Int.toNat_of_nonneg h0] at h
abbrev ai (ws:List Str)(d:Str)(i:Int):Bool:=decide (0<=i)&&(decide (i<ws.length)&&(match ws[i.toNat]? with
 |some w=>if w="look" then d =="look" else w =="open"
 |none=>false))
def au {d:Str}(h:ai ws d i=true):0<=i/\i<ws.length:=by
 unfold ai at h;rw[mo,mo,decide_eq_true_eq,decide_eq_true_eq] at h;exact ⟨h.1,h.2.1⟩
def eK {x:Addr}{w:V}(hk:1<=k)(s:Sep (pt x (.exc (R.cad 2) none [] true)::O) H)(q:∀ d H',Sep (pt x (.exc (R.cad 2) (some d) [("deed",v),("cell",w)] true)::pt d (.own x)::O) H'->Q wl H'):ab tab R k 1 [ut x,v,w] H Q E:=by
 delta dQ;right;refine ⟨_,2,_,_,_,_,rfl,by grind,rfl,?_⟩;right;refine uZ s rfl rfl (λd H hs=>?_);right;refine J9 hs (by ac_rfl) rfl rfl (ol rfl) rfl (λH hs=>?_);right;exact q d H hs
def ff:(10:Int) ^ Int.toNat 9=1000000000:=by decide
local macro_rules| `(tactic|walk_at "dr")=>`(tactic|(refine' zi ?k ?s ?m ?a ?b (λr H hr0 hr1 hs=>?_);(case s=>walk_at "sp");(case k=>exact nofun);(case m=>omega);(case a=>walk_at "ar");(case b=>walk_at "ar")))
local macro_rules| `(tactic|walk_at "gd")=>`(tactic|(walk_at "w";repeat (first|(walk_at "st";walk_at "w")|(walk_at "dr";walk_at "w"))))
def mh (hk:2<=k)(s:Sep (hand h m::O) H)(hm:m<=1099511000000)(q:∀ i H',0<=i->i<=1000000000->Sep (hand h (m+3)::O) H'->Q (v4 i) H'):ab tab R k 93 [ut h] H Q E:=by
 delta e9;walk_at "gd";refine az (λh0=>?_) (λh0=>?_)
 ·walk_at "gd";rename_i r H2 hr0 hr1 hs2;exact q _ _ nofun nofun (aj hs2 nofun)
 walk_at "gd";refine az (λh1=>?_) (λh1=>?_)
 ·walk_at "gd";rename_i r H2 hr0 hr1 hs2;exact q _ _ (by rw[ff];omega) (by rw[ff];omega) (aj hs2 nofun)
 walk_at "gd";refine az (λh2=>?_) (λh2=>?_)
 ·walk_at "gd";rename_i r H2 hr0 hr1 hs2;exact q _ _ nofun nofun (aj hs2 nofun)
 walk_at "gd";rename_i r H2 hr0 hr1 hs2 r' H3 hr0' hr1' hs3;rw[ff];exact q _ _ nofun nofun (aj hs3 nofun)
abbrev fR (ns:List Int):Prop:=∀ i ∈ ns,0<=i/\i<=1000000000
def tU (h:fR ns)(h0:0<=i)(h1:i<=1000000000):fR (ns++[i]):=λj hj=>by
 rcases mem_append.mp hj with hj|hj
 ·exact h j hj
 ·rw[mem_singleton.mp hj];exact ⟨h0,h1⟩
abbrev bx (f:α->List aq):aq:=⟨λH D=>∃ x,bw (f x) H D,λH H' D ⟨x,h⟩ k t=>⟨x,bw.st h k t⟩,λH D D' ⟨x,h⟩ k=>⟨x,bw.up h k⟩⟩
def gJ:∀ {O Δ:List aq}{D:Addr->Prop},bw (O++Δ) H D ↔ ∃ D1 D2:Addr->Prop,(∀ a,D1 a->D a)/\(∀ a,D2 a->D a)/\(∀ a,D1 a->D2 a->False)/\bw O H D1/\bw Δ H D2
 | [],Δ,D=>⟨λh=>⟨λ_=>False,D,λ_ z=>z.elim,λ_ z=>z,λ_ z _=>z,True.intro,h⟩,λ⟨_,_,_,s2,_,_,h⟩=>bw.up h s2⟩
 |A::O,Δ,D=>by
  constructor
  ·rintro ⟨E1,E2,s1,s2,dj,hA,h⟩;obtain ⟨F1,F2,t1,t2,dk,h1,h2⟩:=gJ.mp h;refine ⟨λa=>E1 a\/F1 a,F2,λa z=>z.elim (s1 a) λz=>s2 a (t1 a z),λa z=>s2 a (t2 a z),λa z w=>z.elim (λz=>dj a z (t2 a w)) λz=>dk a z w,?_,h2⟩;exact ⟨E1,F1,λa z=>.inl z,λa z=>.inr z,λa z w=>dj a z (t1 a w),hA,h1⟩
  ·rintro ⟨D1,D2,s1,s2,dj,⟨E1,E2,t1,t2,dk,hA,h1⟩,h2⟩;refine ⟨E1,λa=>E2 a\/D2 a,λa z=>s1 a (t1 a z),λa z=>z.elim (λz=>s1 a (t2 a z)) (s2 a),λa z w=>w.elim (dk a z) λw=>dj a (t1 a z) w,hA,?_⟩;exact gJ.mpr ⟨E2,D2,λa z=>.inl z,λa z=>.inr z,λa z w=>dj a (t2 a z) w,h1,h2⟩
def fw {f:α->List aq}(s:Sep (bx f::O) H):∃ x,Sep (f x++O) H:=by
 obtain ⟨D,k,D1,D2,s1,s2,dj,⟨x,h1⟩,h2⟩:=s;exact ⟨x,D,k,gJ.mpr ⟨D1,D2,s1,s2,dj,h1,h2⟩⟩
def gf {f:α->List aq}(x:α)(s:Sep (f x++O) H):Sep (bx f::O) H:=by
 obtain ⟨D,k,h⟩:=s;obtain ⟨D1,D2,s1,s2,dj,h1,h2⟩:=gJ.mp h;exact ⟨D,k,D1,D2,s1,s2,dj,⟨x,h1⟩,h2⟩
abbrev jw:List Str:=["here","there","left","way","sign","met"]
abbrev rH:List Key:=[.inr "here",.inr "there",.inr "left",.inr "way",.inr "sign",.inr "met"]
abbrev eW:V->Bool
 | v4 i=>decide (-1000000000<=i)&&decide (i<=1000000000)
 |_=>false
abbrev lK (a b:Int):V->Bool
 | v4 i=>i ==a||i ==b
 |_=>false
abbrev bA:Nat->V->Bool
 |0,v=>eW v
 |1,v=>eW v
 |3,v=>lK 1 (-1) v
 |5,v=>lK 0 1 v
 |_,v=>dD v
def d7 {t:String}(ro:Ro K R)(hk:2<=k)(ht:tyName v H=some t)(q:Q (.bl (eW v)) H):ab tab R k 11 [v] H Q E:=by
 delta jq;right;refine a8 nofun ht ?_;cases jt ht
 case int i=>
  left;refine aN rfl ?_;left;simp only[ro.g_BOUND];right;refine aA (λh0=>?_) (λh0=>?_)
  ·left;simp only[ro.g_BOUND];right;have e:eW (v4 i)=decide (i<=1000000000):=by simp[eW,h0]
   rw[e] at q;exact q
  ·right;have e:eW (v4 i)=false:=by simp[eW,h0]
   rw[e] at q;exact q
 all_goals
  right;exact q
def jY {j:Nat}{x:Str}(h:jw[j]? =some x):(j=0/\x="here")\/(j=1/\x="there")\/(j=2/\x="left")\/(j=3/\x="way")\/(j=4/\x="sign")\/(j=5/\x="met"):=by
 rcases j with _|_|_|_|_|_|j
 ·cases h;exact .inl ⟨rfl,rfl⟩
 ·cases h;exact .inr (.inl ⟨rfl,rfl⟩)
 ·cases h;exact .inr (.inr (.inl ⟨rfl,rfl⟩))
 ·cases h;exact .inr (.inr (.inr (.inl ⟨rfl,rfl⟩)))
 ·cases h;exact .inr (.inr (.inr (.inr (.inl ⟨rfl,rfl⟩))))
 ·cases h;exact .inr (.inr (.inr (.inr (.inr ⟨rfl,rfl⟩))))
 ·exact absurd h (by simp[jw])
local macro_rules| `(tactic|walk_at "sc")=>`(tactic|first|(refine aN (by decide+kernel) ?_;walk_at "go")|(refine aw (by decide+kernel) ?_;walk_at "go"))
def tj {t:String}{j:Nat}{x:Str}(ro:Ro K R)(hk:3<=k)(hj:jw[j]? =some x)(ht:tyName v H=some t)(q:Q (.bl (bA j v)) H):ab tab R k 12 [wf x,v] H Q E:=by
 delta AK;rcases jY hj with ⟨rfl,rfl⟩|⟨rfl,rfl⟩|⟨rfl,rfl⟩|⟨rfl,rfl⟩|⟨rfl,rfl⟩|⟨rfl,rfl⟩
 all_goals right
 all_goals repeat walk_at "sc"
 ·exact d7 ro nofun ht q
 ·exact d7 ro nofun ht q
 ·exact cA ro nofun ht q
 ·refine a8 nofun ht ?_;cases jt ht
  case int i=>
   right;refine az (λh0=>?_) (λh0=>?_)
   ·right;have e:bA 3 (v4 i)=true:=by simp[bA,lK,h0]
    rw[e] at q;exact q
   ·right;have e:bA 3 (v4 i)=(i == -1):=by simp[bA,lK,h0]
    rw[e] at q;exact q
  all_goals
   right;exact q
 ·exact cA ro nofun ht q
 ·refine a8 nofun ht ?_;cases jt ht
  case int i=>
   right;refine az (λh0=>?_) (λh0=>?_)
   ·right;have e:bA 5 (v4 i)=true:=by simp[bA,lK,h0]
    rw[e] at q;exact q
   ·right;have e:bA 5 (v4 i)=(i ==1):=by simp[bA,lK,h0]
    rw[e] at q;exact q
  all_goals
   right;exact q
abbrev boxes (R:Rt)(b:Addr)(ns:List Int):aq:=bx λx:Addr×Addr=>[pt b (wr (R.cad 9) x.1 [("numbers",ut x.2)]),pt x.1 (.own b),pt x.2 (.dK (rH.zip (ns.map v4))),pu (ns.length=6)]
def hW {b:Addr}(s:Sep (boxes R b ns::O) H):∃ dx d,ns.length=6/\Sep (pt b (wr (R.cad 9) dx [("numbers",ut d)])::pt dx (.own b)::pt d (.dK (rH.zip (ns.map v4)))::O) H:=by
 obtain ⟨⟨dx,d⟩,s⟩:=fw s;have s:Sep (pt b (wr (R.cad 9) dx [("numbers",ut d)])::pt dx (.own b)::pt d (.dK (rH.zip (ns.map v4)))::pu (ns.length=6)::O) H:=s;have p:=(s.pull .k3).pure;exact ⟨dx,d,p,(s.pull .k3).drop⟩
def gP {b:Addr}(hn:ns.length=6)(s:Sep (pt b (wr (R.cad 9) dx [("numbers",ut d)])::pt dx (.own b)::pt d (.dK (rH.zip (ns.map v4)))::O) H):Sep (boxes R b ns::O) H:=
 gf (dx,d) (Sep.push .k3 (Sep.Az hn s))
def six {ns:List α}(h:ns.length=6):∃ a b c d e f,ns=[a,b,c,d,e,f]:=by
 match ns,h with
 | [a,b,c,d,e,f],_=>exact ⟨a,b,c,d,e,f,rfl⟩
def uo {j:Nat}{x:Str}(hn:ns.length=6)(hj:jw[j]? =some x):∃ i,ns[j]? =some i/\di (rH.zip (ns.map v4)) (.inr x)=some (v4 i):=by
 obtain ⟨a,b,c,d,e,f,rfl⟩:=six hn;rcases jY hj with ⟨rfl,rfl⟩|⟨rfl,rfl⟩|⟨rfl,rfl⟩|⟨rfl,rfl⟩|⟨rfl,rfl⟩|⟨rfl,rfl⟩<;>exact ⟨_,rfl,rfl⟩
def Dk {b:Addr}(ro:Ro K R)(hk:1<=k)(s:Sep (boxes R b ns::O) H)(q:∀ t H',Sep (tu t (ns.map v4)::boxes R b ns::O) H'->Q (ut t) H'):ab tab R k 16 [ut b] H Q E:=by
 obtain ⟨dx,d,hn,s⟩:=hW s;delta gZ;right;obtain ⟨a,hg,hS⟩:=ro.g_NAMES;simp only[hg];rw[<-ro.hK] at hS;right;refine J6 (hS H) ?_;refine G6 (xs:=jw.map wf) (ol rfl) (λD ys H=>ys=(ns.map v4).take ys.length/\Sep (pt D (wn ys)::pt b (wr (R.cad 9) dx [("numbers",ut d)])::pt dx (.own b)::pt d (.dK (rH.zip (ns.map v4)))::O) H) ?_ ?_ ?_ ?_
 ·intro D ys H _;exact hS H
 ·intro D hD;exact ⟨rfl,s.new hD⟩
 ·rintro D ys x H' hx ⟨e,hs⟩;rw[io] at hx;obtain ⟨z,hz,rfl⟩:=nb.mp hx;obtain ⟨i,h1,h2⟩:=uo hn hz;right;refine oz (k:=.inr z) (by grind) h2 ?_;have hlt:=(sK.mp h1).1;refine pA.mk (by grind) nofun ⟨?_,?_⟩
  ·have e2:(ns.map v4)[ys.length]? =some (v4 i):=by rw[io,h1];rfl
   rw[cr,ge,List.take_succ,e2]
   conv=>lhs;rw[e]
   rfl
  ·exact hs.set rfl
 ·rintro D ys H' hl ⟨e,hs⟩;have e2:ys=ns.map v4:=by
   rw[e,hl];rw[take_of_length_le];simp[jw,hn]
  subst e2;right;refine Hr hs (by grind) (λp H hs=>?_);right;refine q p H ?_;refine Sep.pull .k1 (gP (dx:=dx) (d:=d) hn ?_);walk_at "sp"
def vp {x:Addr}(ro:Ro K R)(hk:4<=k)(hn:ns.length=6)(hf:∀ (j:Nat) i,ns[j]? =some i->bA j (v4 i)=true) (s:Sep (pt x (wr (R.cad 9) dx [])::pt dx (.own x)::O) H) (q:∀ H',Sep (boxes R x ns::O) H'->Q wl H'):
  ab tab R k 13 (ut x::ns.map v4) H Q E:=by
 obtain ⟨a0,a1,a2,a3,a4,a5,rfl⟩:=six hn;delta dh;right;rename_i p H1 hs1;obtain ⟨na,hg,hS⟩:=ro.g_NAMES;simp only[hg];rw[<-ro.hK] at hS;right;refine LN (tp1:=true) (tp2:=true) (xs:=jw.map wf) (ys:=[v4 a0,v4 a1,v4 a2,v4 a3,v4 a4,v4 a5]) (hS _) (aS.of hs1.at) ?_;refine CV (xs:=jw.map wf) (ys:=[v4 a0,v4 a1,v4 a2,v4 a3,v4 a4,v4 a5]) (λj U H=>∃ v w,U=[some (ut x),some (v4 a0),some (v4 a1),some (v4 a2),some (v4 a3),some (v4 a4),some (v4 a5),some (ut p),v,w]/\Sep (pt p (wp [v4 a0,v4 a1,v4 a2,v4 a3,v4 a4,v4 a5])::pt x (wr (R.cad 9) dx [])::pt dx (.own x)::O) H) rfl ?_ ?_ ?_ ?_
 ·exact ⟨none,none,rfl,hs1⟩
 ·rintro j U H ⟨v,w,rfl,hs⟩;exact ⟨hS _,aS.of hs.at⟩
 ·rintro j y z T U H hy hz ⟨v,w,rfl,hs⟩ hT;rw[io] at hy;obtain ⟨nm,hnm,rfl⟩:=nb.mp hy;obtain ⟨i,hi,rfl⟩:∃ i,([a0,a1,a2,a3,a4,a5]:List Int)[j]? =some i/\z=v4 i:=by
   have hz':(([a0,a1,a2,a3,a4,a5]:List Int).map v4)[j]? =some z:=hz;rw[io] at hz';obtain ⟨i,h1,h2⟩:=nb.mp hz';exact ⟨i,h1,h2.symm⟩
  have hs2:=hs.iK (xs:=[wf nm,v4 i]) hT;left;refine ⟨T,_,rfl,.inl (aS.of hs2.atT),rfl,?_⟩;right;refine tj ro nofun hnm rfl ?_;rw[hf j i hi];right;exact ⟨_,_,rfl,hs2.drop⟩
 ·rintro U H ⟨v,w,rfl,hs⟩;right;simp only[hg];right;refine JM (tp1:=true) (tp2:=true) (ks:=rH) (ys:=([a0,a1,a2,a3,a4,a5]:List Int).map v4) hs (hS _) (aS.of hs.at) (by decide+kernel) rfl (ol rfl) (λd H2 hs2=>?_);right;rename_i H3 hs3;refine q _ ?_;refine gP (dx:=dx) (d:=d) rfl ?_;walk_at "sp"
def AD {j:Nat}{x:Str}(ro:Ro K R)(hk:1<=k)(hj:jw[j]? =some x)(q:Q (.bl true) H):ab tab R k 10 [wf x] H Q E:=by
 delta kU;right;obtain ⟨a,hg,hs⟩:=ro.g_NAMES;simp only[hg];have hs':=hs H;rw[<-ro.hK] at hs';right;refine pq hs' rfl rfl ?_;rcases jY hj with ⟨rfl,rfl⟩|⟨rfl,rfl⟩|⟨rfl,rfl⟩|⟨rfl,rfl⟩|⟨rfl,rfl⟩|⟨rfl,rfl⟩<;>exact q
def dH {b:Addr}{j:Nat}{x:Str}(ro:Ro K R)(hk:2<=k)(s:Sep (boxes R b ns::O) H)(hj:jw[j]? =some x)(hi:ns[j]? =some i)(q:Q (v4 i) H):ab tab R k 14 [ut b,wf x] H Q E:=by
 obtain ⟨dx,d,hn,s⟩:=hW s;delta fH;right;refine AD ro nofun hj ?_;right;obtain ⟨i',h1,h2⟩:=uo hn hj;rw[hi] at h1;cases h1;exact oz (k:=.inr x) (by grind) h2 q
def wq {b:Addr}(ro:Ro K R)(hk:5<=k)(s:Sep (boxes R b ns::O) H)(q:∀ c H',Sep (boxes R c ns::boxes R b ns::O) H'->Q (ut c) H'):ab tab R k 17 [ut b] H Q E:=by
 delta ei;right;intro x dx h1 h2 h3;refine vp (ns:=[0,0,0,1,0,0]) ro nofun rfl ?_ (jA s h1 h2 h3) (λH1 hs1=>?_)
 ·intro j i hi;rcases j with _|_|_|_|_|_|j<;>first|(cases hi;rfl)|exact absurd hi (by simp)
 refine ⟨rfl,?_⟩;obtain ⟨dx1,d1,hn1,hs2⟩:=hW hs1;obtain ⟨dx2,d2,hn2,hs3⟩:=hW (hs2.pull .k3);right;refine uK hs3 (by grind) (λd3 H3 hs4=>?_);right;rename_i H4 hs5;refine q _ _ ?_;refine gP (dx:=dx1) (d:=d3) hn2 ?_;refine Sep.push .k3 (gP (dx:=dx2) (d:=d2) hn2 ?_);walk_at "sp"
def hV {x:Addr}{w:V}(hk:1<=k)(s:Sep (pt x (.exc (R.cad 3) none [] true)::O) H)(q:∀ d H',Sep (pt x (.exc (R.cad 3) (some d) [("box",v),("number",w)] true)::pt d (.own x)::O) H'->Q wl H'):ab tab R k 2 [ut x,v,w] H Q E:=by
 delta cX;right;refine ⟨_,3,_,_,_,_,rfl,by grind,rfl,?_⟩;right;refine uZ s rfl rfl (λd H hs=>?_);right;refine J9 hs (by ac_rfl) rfl rfl (ol rfl) rfl (λH hs=>?_);right;exact q d H hs
abbrev JH:V->Bool
 | wf x=>HI (wf x) (jw.map wf)
 |_=>false
def nK {t:String}(ro:Ro K R)(hk:1<=k)(ht:tyName v H=some t)(q:Q (.bl (JH v)) H):ab tab R k 10 [v] H Q E:=by
 delta kU;right;obtain ⟨a,hg,hs⟩:=ro.g_NAMES;have hs':=hs H;rw[<-ro.hK] at hs';cases jt ht
 case str x=>
  refine d4 ht rfl ?_;left;refine aN rfl ?_;left;simp only[hg];right;exact pq hs' rfl rfl q
 all_goals
  refine d4 ht rfl ?_;right;exact q
def sx {j:Nat}{x:Str}(hj:jw[j]? =some x):JH (wf x)=true:=by
 rcases jY hj with ⟨rfl,rfl⟩|⟨rfl,rfl⟩|⟨rfl,rfl⟩|⟨rfl,rfl⟩|⟨rfl,rfl⟩|⟨rfl,rfl⟩<;>rfl
def ve {j:Nat}{x:Str}(hn:ns.length=6)(hj:jw[j]? =some x):putK (rH.zip (ns.map v4)) (.inr x) (v4 i)=rH.zip ((ns.set j i).map v4):=by
 obtain ⟨a,b,c,d,e,f,rfl⟩:=six hn;rcases jY hj with ⟨rfl,rfl⟩|⟨rfl,rfl⟩|⟨rfl,rfl⟩|⟨rfl,rfl⟩|⟨rfl,rfl⟩|⟨rfl,rfl⟩<;>rfl
def GC {b:Addr}{j:Nat}{x:Str}(ro:Ro K R)(hk:4<=k)(s:Sep (boxes R b ns::O) H)(hj:jw[j]? =some x)(hf:bA j (v4 i)=true)(q:∀ H',Sep (boxes R b (ns.set j i)::O) H'->Q wl H'):ab tab R k 15 [ut b,wf x,v4 i] H Q E:=by
 obtain ⟨dx,d,hn,s⟩:=hW s;delta dA;right;refine nK (t:="str") ro nofun rfl ?_;rw[sx hj];right;refine tj ro nofun hj rfl ?_;rw[hf];right;refine El (k:=.inr x) (kvs':=rH.zip ((ns.set j i).map v4)) s (by ac_rfl) (by rw[length_zip,ci,hn];decide) (ve hn hj) (λH1 hs1=>?_);right;exact q H1 (gP (by rw[length_set];exact hn) hs1)
def sJ {b:Addr}{j:Nat}{x:Str}{t:String}(ro:Ro K R)(hk:4<=k)(s:Sep (boxes R b ns::O) H)(hj:jw[j]? =some x)(ht:tyName v H=some t)(hf:bA j v=false)(q:∀ e d H',Sep (pt e (.exc (R.cad 3) (some d) [("box",wf x),("number",v)] false)::pt d (.own e)::boxes R b ns::O) H'->E e H'):ab tab R k 15 [ut b,wf x,v] H Q E:=by
 delta dA;right;refine nK (t:="str") ro nofun rfl ?_;rw[sx hj];right;refine tj ro nofun hj ht ?_;rw[hf];right;intro e he;refine hV nofun (s.new he) (λd H3 hs3=>⟨rfl,?_⟩);exact eP (G:=⟨tab,R,ab tab R (k-1),true⟩) hs3 .e rfl (λH4 hs4=>q e d H4 hs4)
abbrev Ob (R:Rt)(A:aq)(b:Addr)(i:Nat)(fl:List Str):Prop:=∀ H D,A.p H D->∃ dx fs,H b=some (wr (R.cad i) dx fs)/\fs.map (·.1)=fl
def vz {m:Str}:∀ {fs:List (Str×V)},(fs.map (·.1)).all (λx=>!(m ==x))=true->fs.lookup m=none
 | [],_=>rfl
 |(x,v)::fs,h=>by
  simp only[map_cons,all_cons,mo] at h;have h1:(m ==x)=false:=by simpa using h.1
  rw[lookup_cons,h1];exact vz h.2
def ah {b:Addr}{i f:Nat}{fl:List Str}{m:Str}{X:Nat->Prop}(o:Ob G.R A b i fl)(s:Sep O H)(p:af A O Δ)(hm:fl.all (λx=>!(m ==x))=true) (hf:G.T.me.lookup (i,m)=some f) (h:X f):
  ∃ p' i' dx fs f',ut b=ut p'/\H p'=some (wr (G.R.cad i') dx fs)/\fs.lookup m=none/\G.T.me.lookup (i',m)=some f'/\X f':=by
 obtain ⟨D,k,D1,D2,s1,s2,dj,h1,h2⟩:=s.pull p;obtain ⟨dx,fs,e1,e2⟩:=o H D1 h1;exact ⟨b,i,dx,fs,f,rfl,e1,vz (e2▸hm),hf,h⟩
structure Bx where
 h:Int
 t:Int
 l:Int
 w:Int
 s:Int
 m:Int
abbrev Bx.ls (x:Bx):List Int:=[x.h,x.t,x.l,x.w,x.s,x.m]
abbrev Bx.ok (x:Bx):Prop:=(-1000000000<=x.h/\x.h<=1000000000)/\(-1000000000<=x.t/\x.t<=1000000000)/\(0<=x.l/\x.l<=1000000000)/\(x.w=1\/x.w= -1)/\(0<=x.s/\x.s<=1000000000)/\(x.m=0\/x.m=1)
abbrev aH (R:Rt)(b:Addr)(x:Bx):aq:=bx λ_:Unit=>[boxes R b x.ls,pu x.ok]
variable {x:Bx}
def dR {b:Addr}(s:Sep (aH R b x::O) H):x.ok/\Sep (boxes R b x.ls::O) H:=by
 obtain ⟨_,s⟩:=fw s;have s:Sep (boxes R b x.ls::pu x.ok::O) H:=s;exact ⟨(s.pull .k1).pure,(s.pull .k1).drop⟩
def lZ {b:Addr}(hx:x.ok)(s:Sep (boxes R b x.ls::O) H):Sep (aH R b x::O) H:=gf () (Sep.push .k1 (Sep.Az hx s))
def lS {b:Addr}(s:Sep O H)(p:af (aH R b x) O Δ):x.ok:=(dR (s.pull p)).1
def bq {b:Addr}:Ob R (aH R b x) b 9 ["numbers"]:=by
 rintro H D ⟨_,D1,D2,_,_,_,⟨⟨dx,d⟩,E1,E2,_,_,_,⟨_,h⟩,_⟩,_⟩;exact ⟨dx,_,h,rfl⟩
def FF (h:x.ok):∀ (j:Nat) i,x.ls[j]? =some i->bA j (v4 i)=true:=by
 obtain ⟨⟨h1,h2⟩,⟨h3,h4⟩,⟨h5,h6⟩,h7,⟨h8,h9⟩,h10⟩:=h;intro j i hi;rcases j with _|_|_|_|_|_|j
 ·cases hi;simp[bA,eW,h1,h2]
 ·cases hi;simp[bA,eW,h3,h4]
 ·cases hi;simp[bA,dD,h5,h6]
 ·cases hi;rcases h7 with e|e<;>rw[e]<;>rfl
 ·cases hi;simp[bA,dD,h8,h9]
 ·cases hi;rcases h10 with e|e<;>rw[e]<;>rfl
 ·exact absurd hi (by simp[Bx.ls])
def ur (h: -1000000000<=i/\i<=1000000000):eW (v4 i)=true:=by simp[eW,h.1,h.2]
def vD (h:0<=i/\i<=1000000000):dD (v4 i)=true:=by simp[dD,h.1,h.2]
section
variable {b:Addr}{h t l w s m i:Int}
def Jc (ro:Ro K R)(hk:2<=k)(z:Sep O H)(p:af (aH R b ⟨h,t,l,w,s,m⟩) O Δ)(q:Q (v4 h) H):ab tab R k 14 [ut b,wf "here"] H Q E:=dH (j:=0) ro hk (dR (z.pull p)).2 rfl rfl q
def Jo (ro:Ro K R)(hk:2<=k)(z:Sep O H)(p:af (aH R b ⟨h,t,l,w,s,m⟩) O Δ)(q:Q (v4 t) H):ab tab R k 14 [ut b,wf "there"] H Q E:=dH (j:=1) ro hk (dR (z.pull p)).2 rfl rfl q
def Gf (ro:Ro K R)(hk:2<=k)(z:Sep O H)(p:af (aH R b ⟨h,t,l,w,s,m⟩) O Δ)(q:Q (v4 l) H):ab tab R k 14 [ut b,wf "left"] H Q E:=dH (j:=2) ro hk (dR (z.pull p)).2 rfl rfl q
def G3 (ro:Ro K R)(hk:2<=k)(z:Sep O H)(p:af (aH R b ⟨h,t,l,w,s,m⟩) O Δ)(q:Q (v4 w) H):ab tab R k 14 [ut b,wf "way"] H Q E:=dH (j:=3) ro hk (dR (z.pull p)).2 rfl rfl q
def LL (ro:Ro K R)(hk:2<=k)(z:Sep O H)(p:af (aH R b ⟨h,t,l,w,s,m⟩) O Δ)(q:Q (v4 s) H):ab tab R k 14 [ut b,wf "sign"] H Q E:=dH (j:=4) ro hk (dR (z.pull p)).2 rfl rfl q
def Kh (ro:Ro K R)(hk:2<=k)(z:Sep O H)(p:af (aH R b ⟨h,t,l,w,s,m⟩) O Δ)(q:Q (v4 m) H):ab tab R k 14 [ut b,wf "met"] H Q E:=dH (j:=5) ro hk (dR (z.pull p)).2 rfl rfl q
def vd {y:Bx}{j:Nat}{nm:Str}(ro:Ro K R)(hk:4<=k)(z:Sep O H)(r:aI (aH R b x) (aH R b y) O Γ')(hj:jw[j]? =some nm)(hf:bA j (v4 i)=true)(hx:x.ls.set j i=y.ls)(hy:x.ok->y.ok)(q:∀ H',Sep Γ' H'->Q wl H'):ab tab R k 15 [ut b,wf nm,v4 i] H Q E:=by
 obtain ⟨Δ,h1,h2⟩:=r.bG;obtain ⟨hok,z2⟩:=dR (z.pull h1);refine GC ro hk z2 hj hf (λH' z3=>q H' (Sep.push h2 (lZ (hy hok) ?_)));rw[hx] at z3;exact z3
def IM (ro:Ro K R)(hk:4<=k)(z:Sep O H)(r:aI (aH R b ⟨h,t,l,w,s,m⟩) (aH R b ⟨i,t,l,w,s,m⟩) O Γ')(hi: -1000000000<=i/\i<=1000000000)(q:∀ H',Sep Γ' H'->Q wl H'):ab tab R k 15 [ut b,wf "here",v4 i] H Q E:=
 vd (j:=0) ro hk z r rfl (ur hi) rfl (λ⟨_,a⟩=>⟨hi,a⟩) q
def IF (ro:Ro K R)(hk:4<=k)(z:Sep O H)(r:aI (aH R b ⟨h,t,l,w,s,m⟩) (aH R b ⟨h,i,l,w,s,m⟩) O Γ')(hi: -1000000000<=i/\i<=1000000000)(q:∀ H',Sep Γ' H'->Q wl H'):ab tab R k 15 [ut b,wf "there",v4 i] H Q E:=
 vd (j:=1) ro hk z r rfl (ur hi) rfl (λ⟨a1,_,a⟩=>⟨a1,hi,a⟩) q
def IB (ro:Ro K R)(hk:4<=k)(z:Sep O H)(r:aI (aH R b ⟨h,t,l,w,s,m⟩) (aH R b ⟨h,t,i,w,s,m⟩) O Γ')(hi:0<=i/\i<=1000000000)(q:∀ H',Sep Γ' H'->Q wl H'):ab tab R k 15 [ut b,wf "left",v4 i] H Q E:=
 vd (j:=2) ro hk z r rfl (vD hi) rfl (λ⟨a1,a2,_,a⟩=>⟨a1,a2,hi,a⟩) q
def uC (ro:Ro K R)(hk:1<=k)(z:Sep O H)(p:af (aH R b x) O Δ)(q:∀ t H',Sep (tu t (x.ls.map v4)::O) H'->Q (ut t) H'):ab tab R k 16 [ut b] H Q E:=by
 obtain ⟨hok,z2⟩:=dR (z.pull p);exact Dk ro hk z2 (λt H' z3=>q t H' (Sep.push (.t p) (lZ hok (z3.pull .k1))))
def DA (ro:Ro K R)(hk:4<=k)(hx:x.ok)(z:Sep (pt b (wr (R.cad 9) dx [])::pt dx (.own b)::O) H)(q:∀ H',Sep (aH R b x::O) H'->Q wl H'):
  ab tab R k 13 (ut b::x.ls.map v4) H Q E:=vp ro hk rfl (FF hx) z (λH' z2=>q H' (lZ hx z2))
def zw (ro:Ro K R)(hk:4<=k)(hx:(Bx.mk h t l w s m).ok)(z:Sep (pt b (wr (R.cad 9) dx [])::pt dx (.own b)::O) H)(q:∀ H',Sep (aH R b ⟨h,t,l,w,s,m⟩::O) H'->Q wl H'):
  ab tab R k 13 [ut b,v4 h,v4 t,v4 l,v4 w,v4 s,v4 m] H Q E:=DA (x:=⟨h,t,l,w,s,m⟩) ro hk hx z q
end
abbrev gt (cs:List Int)(i:Int):Int:=(cs[i.toNat]?).getD 0
def vA {cs:List Int}(h0:0<=i)(h1:i<cs.length):cs[i.toNat]? =some (gt cs i):=by
 unfold gt;rw[li nofun]
 rfl
def ET {cs:List Int}(h0:0<=i)(h1:i<cs.length):j7 (cs.map v4) i=some (v4 (gt cs i)):=aF h0 (by rw[io,vA h0 h1];rfl)
def EL {cs:List Int}(hc:fR cs):0<=gt cs i/\gt cs i<=1000000000:=by
 unfold gt;cases e:cs[i.toNat]? with
 |none=>exact ⟨by decide,by decide⟩
 |some x=>exact hc x (db e)
abbrev xF (cs:List Int)(ws:List Str):Prop:=cs.length=ws.length/\1<=cs.length/\cs.length<=60/\fR cs
abbrev A7 (R:Rt)(a:Addr)(cs:List Int)(ws:List Str):aq:=bx λ_:Unit=>[gh (R.cad 23) a (cs.map v4) (ws.map wf),pu (xF cs ws)]
def zr {cs:List Int}(s:Sep (A7 R a cs ws::O) H):xF cs ws/\Sep (gh (R.cad 23) a (cs.map v4) (ws.map wf)::O) H:=by
 obtain ⟨_,s⟩:=fw s;have s:Sep (gh (R.cad 23) a (cs.map v4) (ws.map wf)::pu (xF cs ws)::O) H:=s;exact ⟨(s.pull .k1).pure,(s.pull .k1).drop⟩
def Ac {cs:List Int}(hx:xF cs ws)(s:Sep (gh (R.cad 23) a (cs.map v4) (ws.map wf)::O) H):Sep (A7 R a cs ws::O) H:=gf () (Sep.push .k1 (Sep.Az hx s))
def F8 {cs:List Int}(s:Sep O H)(p:af (A7 R a cs ws) O Δ):xF cs ws:=(zr (s.pull p)).1
def xW {cs:List Int}:Ob R (A7 R a cs ws) a 23 ["contents","permits"]:=by
 rintro H D ⟨_,D1,D2,_,_,_,⟨⟨dx,c,d⟩,E1,E2,_,_,_,⟨_,h⟩,_⟩,_⟩;exact ⟨dx,_,h,rfl⟩
section
variable {a:Addr}{cs:List Int}{ws:List Str}{i v:Int}
end
def wC {cs:List Int}(h1:1<=cs.length)(h60:cs.length<=60)(hc:fR cs):bad (cs.map v4)=none:=by
 refine pJ (by rw[ci];exact ⟨h1,h60⟩) λi y hy=>?_
 rw[io] at hy;obtain ⟨z,hz,rfl⟩:=nb.mp hy;exact vD (hc z (db hz))
def AA {cs:List Int}(s:Sep O H):Sep (tys (cs.map v4)::O) H:=Sep.Jr (λx hx=>by
 obtain ⟨z,_,rfl⟩:=List.mem_map.mp hx;exact ⟨"int",rfl⟩) s
def uf {p:Addr}{cs:List Int}(ro:Ro K R)(hk:4<=k)(h1:1<=cs.length)(h60:cs.length<=60)(hc:fR cs)(s:Sep (pt p (wr (R.cad 23) dx [])::pt dx (.own p)::O) H)(h:af (pt a (wn (cs.map v4))) O Δ)
  (q:∀ H',Sep (A7 R p cs (sw cs.length "open")::O) H'->Q wl H'):ab tab R k 63 [ut p,ut a] H Q E:=by
 have s2:=AA (cs:=cs) (s.pull (.j2 h));refine pf (a:=a) (dx:=dx) (O:=Δ) ro hk (s2.sub ?_) (λ_ H' z=>q H' ?_) (λat' hb=>absurd hb (by rw[wC h1 h60 hc];exact λz=>nomatch z))
 ·ac_nf
 ·refine Sep.push (.t h) ?_;have e:sw (cs.map v4).length (wf "open")=(sw cs.length ("open":Str)).map wf:=by rw[ci,List.map_replicate]
  rw[e] at z;have z2:=Ac (cs:=cs) ⟨by rw[length_replicate],h1,h60,hc⟩ z;exact z2.sub (by ac_nf)
def bI {T:Tab}{f:Nat}{vs':List V}(e:vs=vs')(h:ab T R k f vs' H Q E):ab T R k f vs H Q E:=e▸h
local macro_rules| `(tactic|walk_at "ag")=>`(tactic|first|refine bI (vs':=[_,_]) rfl ?_|refine bI (vs':=[_,_,_]) rfl ?_|refine bI (vs':=[_]) rfl ?_|refine bI (vs':=[_,_,_,_]) rfl ?_)
local macro_rules| `(tactic|walk_at "mt")=>`(tactic|first|((with_reducible refine' ah bq ?s ?p ?m ?f ?_);(case s=>with_reducible assumption);(case p=>symm);(case m=>exact rfl);(case f=>exact rfl))|((with_reducible refine' ah xW ?s ?p ?m ?f ?_);(case s=>with_reducible assumption);(case p=>symm);(case m=>exact rfl);(case f=>exact rfl)))
local macro_rules| `(tactic|walk_at "hq")=>`(tactic|((with_reducible (first|refine' Jc ?r ?k ?s ?p ?_|refine' Jo ?r ?k ?s ?p ?_|refine' Gf ?r ?k ?s ?p ?_|refine' G3 ?r ?k ?s ?p ?_|refine' LL ?r ?k ?s ?p ?_|refine' Kh ?r ?k ?s ?p ?_));(case r=>with_reducible assumption);(case k=>exact nofun);(case s=>with_reducible assumption);(case p=>symm)))
local macro_rules| `(tactic|walk_at "gq")=>`(tactic|((with_reducible (first|refine' IM ?r ?k ?s ?p ?i (λH hs=>?_)|refine' IF ?r ?k ?s ?p ?i (λH hs=>?_)|refine' IB ?r ?k ?s ?p ?i (λH hs=>?_)|refine' gi_m ?r ?k ?s ?p ?i (λH hs=>?_)));(case r=>with_reducible assumption);(case k=>exact nofun);(case s=>with_reducible assumption);(case p=>ac_rfl);(case i=>omega)))
local macro_rules| `(tactic|walk_at "ws")=>`(tactic|(walk_at "w";repeat (first|(walk_at "st";walk_at "w")|(walk_at "mt";walk_at "w")|(walk_at "ag";(walk_at "hq");walk_at "w")|(walk_at "ag";(walk_at "gq");walk_at "w"))))
local macro_rules| `(tactic|walk_at "sc")=>`(tactic|first|(refine aN (by decide+kernel) ?_;walk_at "go")|(refine aw (by decide+kernel) ?_;walk_at "go"))
inductive Out where
 |on (r:Int) (x:Bx) (cs:List Int)
 |no (d:Str) (c:Int)
section
variable {b a:Addr}{h t l w s m i j by':Int}{cs:List Int}{ws:List Str}
def FD (ro:Ro K R)(hk:5<=k)(z:Sep O H)(r:aI (aH R b ⟨h,t,l,w,s,m⟩) (aH R b ⟨h+i,t,l,w,s,m⟩) O Γ')(hi: -1000000000<=h+i/\h+i<=1000000000)(q:∀ H',Sep Γ' H'->Q wl H'):ab tab R k 35 [ut b,wf "here",v4 i] H Q E:=by
 obtain ⟨Δ,p1,p2⟩:=r.bG;delta nz;left;refine ⟨rfl,?_⟩;left;refine ah bq z p1 rfl rfl ?_;left;refine ⟨rfl,?_⟩;left;refine ah bq z p1 rfl rfl ?_;left;refine Jc ro nofun z p1 ?_;left;exact IM ro nofun z r hi q
def HS (ro:Ro K R)(hk:5<=k)(z:Sep O H)(r:aI (aH R b ⟨h,t,l,w,s,m⟩) (aH R b ⟨h,t+i,l,w,s,m⟩) O Γ')(hi: -1000000000<=t+i/\t+i<=1000000000)(q:∀ H',Sep Γ' H'->Q wl H'):ab tab R k 35 [ut b,wf "there",v4 i] H Q E:=by
 obtain ⟨Δ,p1,p2⟩:=r.bG;delta nz;left;refine ⟨rfl,?_⟩;left;refine ah bq z p1 rfl rfl ?_;left;refine ⟨rfl,?_⟩;left;refine ah bq z p1 rfl rfl ?_;left;refine Jo ro nofun z p1 ?_;left;exact IF ro nofun z r hi q
def K1 (ro:Ro K R)(hk:5<=k)(z:Sep O H)(r:aI (aH R b ⟨h,t,l,w,s,m⟩) (aH R b ⟨h,t,l+i,w,s,m⟩) O Γ')(hi:0<=l+i/\l+i<=1000000000)(q:∀ H',Sep Γ' H'->Q wl H'):ab tab R k 35 [ut b,wf "left",v4 i] H Q E:=by
 obtain ⟨Δ,p1,p2⟩:=r.bG;delta nz;left;refine ⟨rfl,?_⟩;left;refine ah bq z p1 rfl rfl ?_;left;refine ⟨rfl,?_⟩;left;refine ah bq z p1 rfl rfl ?_;left;refine Gf ro nofun z p1 ?_;left;exact IB ro nofun z r hi q
abbrev fin (l:Int):Int:=if l=0 then 1 else 0
def wb (ro:Ro K R)(hk:6<=k)(z:Sep O H)(r:aI (aH R b ⟨h,t,l,w,s,m⟩) (aH R b ⟨h,t,l+ -i,w,s,m⟩) O Γ')(hi:0<=l+ -i/\l+ -i<=1000000000)(q:∀ H',Sep Γ' H'->Q (v4 (fin (l+ -i))) H'):ab tab R k 37 [ut b,v4 i] H Q E:=by
 obtain ⟨Δ,p1,p2⟩:=r.bG;delta i4;right;refine K1 ro nofun z r hi (λH1 z1=>?_);right;refine ah bq z1 p2 rfl rfl ?_;left;refine Gf ro nofun z1 p2 ?_;right;refine az (λe=>?_) (λe=>?_)
 ·right;have q:=q H1 z1;rw[fin,if_pos e] at q;exact q
 ·right;have q:=q H1 z1;rw[fin,if_neg e] at q;exact q
abbrev hm (cs:List Int)(ws:List Str)(i j:Int)(f:List Int->Out):Out:=
 if ai ws "look" i=true then (if ai ws "put" j=true then f (cs.set j.toNat (gt cs i)) else .no "put" j) else .no "look" i
abbrev cS (x:Bx)(cs:List Int)(ws:List Str):Out:=
 if x.l=0 then .on 1 x cs else if x.t<=x.h then hm cs ws x.h x.t λcs'=>.on (fin (x.l+ -1)) ⟨x.h+1,x.t+1,x.l+ -1,x.w,x.s,x.m⟩ cs'
 else hm cs ws (x.h+x.l-1) (x.t+x.l-1) λcs'=>.on (fin (x.l+ -1)) ⟨x.h,x.t,x.l+ -1,x.w,x.s,x.m⟩ cs'
abbrev xm (cs:List Int)(ws:List Str)(i j:Int)(f:List Int->Out):Out:=
 if ai ws "look" i=true then (if ai ws "look" j=true then (if ai ws "put" i=true then (if ai ws "put" j=true then f ((cs.set i.toNat (gt cs j)).set j.toNat (gt cs i)) else .no "put" j) else .no "put" i) else .no "look" j) else .no "look" i
abbrev fV (x:Bx)(cs:List Int)(ws:List Str):Out:=
 if x.l=0 then .on 1 x cs else if x.l=1 then .on 1 ⟨x.h,x.t,0,x.w,x.s,x.m⟩ cs else xm cs ws x.h (x.h+x.l-1) λcs'=>.on (fin (x.l+ -2)) ⟨x.h+1,x.t,x.l+ -2,x.w,x.s,x.m⟩ cs'
end
section
variable {b a:Addr}{h t l w s m i j:Int}{cs:List Int}{ws:List Str}
def KS (ro:Ro K R)(hk:6<=k)(z:Sep O H)(r:aI (aH R b ⟨h,t,l,w,s,m⟩) (aH R b ⟨h+w,t,l,w,s,m⟩) O Γ')(hi: -1000000000<=h+w/\h+w<=1000000000)(q:∀ H',Sep Γ' H'->Q wl H'):ab tab R k 36 [ut b,wf "here"] H Q E:=by
 obtain ⟨Δ,p1,p2⟩:=r.bG;delta d6;left;refine ⟨rfl,?_⟩;left;refine ⟨rfl,?_⟩;left;refine ah bq z p1 rfl rfl ?_;left;refine G3 ro nofun z p1 ?_;left;exact FD ro nofun z r hi q
def JB (ro:Ro K R)(hk:6<=k)(z:Sep O H)(r:aI (aH R b ⟨h,t,l,w,s,m⟩) (aH R b ⟨h,t+w,l,w,s,m⟩) O Γ')(hi: -1000000000<=t+w/\t+w<=1000000000)(q:∀ H',Sep Γ' H'->Q wl H'):ab tab R k 36 [ut b,wf "there"] H Q E:=by
 obtain ⟨Δ,p1,p2⟩:=r.bG;delta d6;left;refine ⟨rfl,?_⟩;left;refine ⟨rfl,?_⟩;left;refine ah bq z p1 rfl rfl ?_;left;refine G3 ro nofun z p1 ?_;left;exact HS ro nofun z r hi q
abbrev fW (x:Bx)(cs:List Int)(ws:List Str):Out:=
 if x.l=0 then .on 1 x cs else hm cs ws x.h x.t λcs'=>.on (fin (x.l+ -1)) ⟨x.h+x.w,x.t+x.w,x.l+ -1,x.w,x.s,x.m⟩ cs'
abbrev fL (x:Bx)(cs:List Int)(ws:List Str):Out:=
 if x.l=0 then .on 1 x cs else if ai ws "put" x.t=true then .on (fin (x.l+ -1)) ⟨x.h,x.t+x.w,x.l+ -1,x.w,x.s,x.m⟩ (cs.set x.t.toNat x.s) else .no "put" x.t
abbrev Jg (x:Bx)(cs:List Int)(ws:List Str):Out:=
 if x.l=0 then .on 1 ⟨x.h,x.t,x.l,x.w,x.s,0⟩ cs else if ai ws "look" x.h=true then
  (if gt cs x.h=x.s then .on 1 ⟨x.h,x.t,x.l,x.w,x.s,1⟩ cs else .on (fin (x.l+ -1)) ⟨x.h+x.w,x.t,x.l+ -1,x.w,x.s,0⟩ cs) else .no "look" x.h
abbrev GQ (x:Bx)(cs:List Int)(ws:List Str):Out:=
 if x.l=0 then .on 1 ⟨x.h,x.t,x.l,x.w,x.s,1⟩ cs else if ai ws "look" x.h=true then (if ai ws "look" x.t=true then
  (if gt cs x.h=gt cs x.t then .on (fin (x.l+ -1)) ⟨x.h+x.w,x.t+x.w,x.l+ -1,x.w,x.s,1⟩ cs else .on 1 ⟨x.h,x.t,x.l,x.w,x.s,0⟩ cs) else .no "look" x.t) else .no "look" x.h
def nt {c:Bool}(h:c=false):¬ c=true:=by rw[h];decide
end
abbrev b2i (c:Bool):Int:=match c with
 |true=>1
 |false=>0
def nG {c:Bool}(q:Q (v4 (b2i c)) H):lJ G .int [.bl c] H Q:=by
 unfold lJ;refine .inr ⟨c,rfl,?_⟩;cases c<;>exact q
section
variable {cs:List Int}{f g:Nat->Int}{i v:Int}
end
abbrev dd (R:Rt)(d:Addr)(c:Nat):aq:=bx λdx:Addr=>[pt d (wr (R.cad c) dx []),pt dx (.own d)]
def Bj {c:Nat}(s:Sep (pt d (wr (R.cad c) dx [])::pt dx (.own d)::O) H):Sep (dd R d c::O) H:=gf dx s
def Ir {c:Nat}:Ob R (dd R d c) d c []:=by
 rintro H D ⟨dx,D1,D2,_,_,_,⟨_,h⟩,_⟩;exact ⟨dx,_,h,rfl⟩
abbrev ak (d:Addr)(x:Bx):aq:=pt d (.dK (rH.zip (x.ls.map v4)))
section
variable {d:Addr}{h t l w s m i:Int}{P:Hp->Prop}
def Ll (z:Sep O H)(p:af (ak d ⟨h,t,l,w,s,m⟩) O Δ)(q:Q (v4 h) H):qj K (ut d) (wf "here") H Q:=oz (k:=.inr "here") (z.get p) rfl q
def K2 (z:Sep O H)(p:af (ak d ⟨h,t,l,w,s,m⟩) O Δ)(q:Q (v4 t) H):qj K (ut d) (wf "there") H Q:=oz (k:=.inr "there") (z.get p) rfl q
def K7 (z:Sep O H)(p:af (ak d ⟨h,t,l,w,s,m⟩) O Δ)(q:Q (v4 l) H):qj K (ut d) (wf "left") H Q:=oz (k:=.inr "left") (z.get p) rfl q
def Lh (z:Sep O H)(p:af (ak d ⟨h,t,l,w,s,m⟩) O Δ)(q:Q (v4 w) H):qj K (ut d) (wf "way") H Q:=oz (k:=.inr "way") (z.get p) rfl q
def LD (z:Sep O H)(p:af (ak d ⟨h,t,l,w,s,m⟩) O Δ)(q:Q (v4 s) H):qj K (ut d) (wf "sign") H Q:=oz (k:=.inr "sign") (z.get p) rfl q
def Lx (z:Sep O H)(p:af (ak d ⟨h,t,l,w,s,m⟩) O Δ)(q:Q (v4 m) H):qj K (ut d) (wf "met") H Q:=oz (k:=.inr "met") (z.get p) rfl q
def uI {y:Bx}{j:Nat}{nm:Str}(z:Sep O H)(r:aI (ak d x) (ak d y) O Γ')(hj:jw[j]? =some nm)(hx:x.ls.set j i=y.ls)(q:∀ H',Sep Γ' H'->P H'):gH (ut d) (wf nm) (v4 i) H P:=by
 refine El (k:=.inr nm) z r (ol rfl) ?_ q;rw[<-hx];exact ve rfl hj
def LY (z:Sep O H)(r:aI (ak d ⟨h,t,l,w,s,m⟩) (ak d ⟨i,t,l,w,s,m⟩) O Γ')(q:∀ H',Sep Γ' H'->P H'):gH (ut d) (wf "here") (v4 i) H P:=uI (j:=0) z r rfl rfl q
def KW (z:Sep O H)(r:aI (ak d ⟨h,t,l,w,s,m⟩) (ak d ⟨h,i,l,w,s,m⟩) O Γ')(q:∀ H',Sep Γ' H'->P H'):gH (ut d) (wf "there") (v4 i) H P:=uI (j:=1) z r rfl rfl q
def Lu (z:Sep O H)(r:aI (ak d ⟨h,t,l,w,s,m⟩) (ak d ⟨h,t,i,w,s,m⟩) O Γ')(q:∀ H',Sep Γ' H'->P H'):gH (ut d) (wf "left") (v4 i) H P:=uI (j:=2) z r rfl rfl q
def AM (z:Sep O H)(r:aI (pt d (.dK [])) (ak d ⟨h,t,l,w,s,m⟩) O Γ')(q:∀ H',Sep Γ' H'->Q (ut d) H'):mf ["here","there","left","way","sign","met"] d [v4 h,v4 t,v4 l,v4 w,v4 s,v4 m] H Q:=by
 obtain ⟨Δ,p1,p2⟩:=r.bG;unfold mf;exact ⟨z.get p1,q _ (z.put r rfl)⟩
end
local macro_rules| `(tactic|walk_at "sx")=>`(tactic|((with_reducible (first|refine' Ll ?s ?p ?_|refine' K2 ?s ?p ?_|refine' K7 ?s ?p ?_|refine' Lh ?s ?p ?_|refine' LD ?s ?p ?_|refine' Lx ?s ?p ?_));(case s=>with_reducible assumption);(case p=>symm)))
local macro_rules| `(tactic|walk_at "sy")=>`(tactic|((with_reducible (first|refine' LY ?s ?p (λH hs=>?_)|refine' KW ?s ?p (λH hs=>?_)|refine' Lu ?s ?p (λH hs=>?_)|refine' ds_w ?s ?p (λH hs=>?_)|refine' ds_s ?s ?p (λH hs=>?_)|refine' ds_m ?s ?p (λH hs=>?_)));(case s=>with_reducible assumption);(case p=>ac_rfl)))
local macro_rules| `(tactic|walk_at "wd")=>`(tactic|(walk_at "w";repeat (first|(walk_at "sx";walk_at "w")|(walk_at "sy";walk_at "w")|(walk_at "st";walk_at "w")|(refine nG ?_;walk_at "w"))))
inductive Wd where
 |copy|fill|seek|mtch|shift|turn
abbrev Wd.s:Wd->Str
 | .copy=>"copy"
 | .fill=>"fill"
 | .seek=>"seek"
 | .mtch=>"match"
 | .shift=>"shift"
 | .turn=>"turn"
abbrev BA (h t l:Int):Wd->List Int
 | .copy=>[h]
 | .fill=>[]
 | .seek=>[h]
 | .mtch=>[h,t]
 | .shift=>if t<=h then [h+0] else [h+(l-1)]
 | .turn=>if l=1 then [] else [h,h+l-1]
abbrev DM (h t l:Int):Wd->List Int
 | .copy=>[t]
 | .fill=>[t]
 | .seek=>[]
 | .mtch=>[]
 | .shift=>if t<=h then [t+0] else [t+(l-1)]
 | .turn=>if l=1 then [] else [h,h+l-1]
abbrev looks (wd:Wd)(x:Bx):List Int:=if x.l=0 then [] else BA x.h x.t x.l wd
abbrev zL (wd:Wd)(x:Bx):List Int:=if x.l=0 then [] else DM x.h x.t x.l wd
def MX {v0 v1:V}{c:Bool}:j7 [v0,v1] (b2i c)=some (if c=true then v1 else v0):=by cases c<;>rfl
abbrev bj (ws:List Str)(d:Str):List Int->Option (Str×Int)
 | []=>none
 |c::r=>if ai ws d c=true then bj ws d r else some (d,c)
abbrev cL (ws:List Str)(ls ps:List Int):Option (Str×Int):=match bj ws "look" ls with
 |some r=>some r
 |none=>bj ws "put" ps
def jU {ws:List Str}{d:Str}:∀ {l:List Int},(∀ c ∈ l,ai ws d c=true)->bj ws d l=none
 | [],_=>rfl
 |c::r,h=>by
  unfold bj;rw[if_pos (h c lv)];exact jU λc hc=>h c (dL _ hc)
def nj {ws:List Str}{d:Str}{c:Int}:∀ {l:List Int}{j:Nat},(∀ i x,i<j->l[i]? =some x->ai ws d x=true)->l[j]? =some c->ai ws d c=false->bj ws d l=some (d,c)
 | [],_,_,h,_=>by simp at h
 |a::r,0,_,h,hc=>by
  have:a=c:=by simpa using h
  subst this;unfold bj;rw[if_neg (nt hc)]
 |a::r,j+1,hb,h,hc=>by
  unfold bj;rw[if_pos (hb 0 a (Nat.succ_pos _) rfl)];exact nj (λi x hi hx=>hb (i+1) x (Nat.succ_lt_succ hi) (by simpa using hx)) (by simpa using h) hc
abbrev ck:Wd->Bx->List Int->List Str->Out
 | .copy=>fW
 | .fill=>fL
 | .seek=>Jg
 | .mtch=>GQ
 | .shift=>cS
 | .turn=>fV
def aX {d:Str}{r:List Int}(h:bj ws d (c::r)=none):ai ws d c=true/\bj ws d r=none:=by
 unfold bj at h
 by_cases e:ai ws d c=true
 ·rw[if_pos e] at h;exact ⟨e,h⟩
 ·rw[if_neg e] at h;cases h
def pY {ls ps:List Int}(h:cL ws ls ps=none):bj ws "look" ls=none/\bj ws "put" ps=none:=by
 unfold cL at h
 split at h
 ·cases h
 ·rename_i e;exact ⟨e,h⟩
def mn:b2i (kQ (v4 l) (v4 0))=fin l:=by
 show b2i (l ==0)=_;unfold fin
 by_cases e:l=0
 ·rw[if_pos e,e];rfl
 ·rw[if_neg e,show (l ==0)=false by simpa using e];rfl
def DT:l-1=l+ -1:=by omega
def MA:l-2=l+ -2:=by omega
variable {wd:Wd}
section
variable {d p:Addr}{h t l w s m:Int}{cs:List Int}{ws:List Str}
def jf {ls ps:List Int}{v:Str×Int}{a:Out}(h:cL ws (c::ls) ps=some v)(k:cL ws ls ps=some v->a=.no v.1 v.2):(if ai ws "look" c=true then a else .no "look" c)=.no v.1 v.2:=by
 unfold cL at h k;rw[bj] at h
 by_cases e:ai ws "look" c=true
 ·rw[if_pos e] at h⊢;exact k h
 ·rw[if_neg e] at h⊢;cases h;rfl
def mw {ps:List Int}{v:Str×Int}{a:Out}(h:cL ws [] (c::ps)=some v)(k:cL ws [] ps=some v->a=.no v.1 v.2):(if ai ws "put" c=true then a else .no "put" c)=.no v.1 v.2:=by
 have h:bj ws "put" (c::ps)=some v:=h;unfold bj at h
 by_cases e:ai ws "put" c=true
 ·rw[if_pos e] at h⊢;exact k h
 ·rw[if_neg e] at h⊢;cases h;rfl
def jh {v:Str×Int}{a:Out}(h:cL ws [] []=some v):a=.no v.1 v.2:=nomatch (show none=some v from h)
def Hw {dd:Str}(hx:0<=x.l)(hb:cL ws (looks wd x) (zL wd x)=some (dd,c)):ck wd x cs ws=.no dd c:=by
 obtain ⟨h,t,l,w,s,m⟩:=x
 by_cases e:l=0
 ·have e1:looks wd ⟨h,t,l,w,s,m⟩=[]:=if_pos e;have e2:zL wd ⟨h,t,l,w,s,m⟩=[]:=if_pos e;rw[e1,e2] at hb;cases hb
 have e1:looks wd ⟨h,t,l,w,s,m⟩=BA h t l wd:=if_neg e;have e2:zL wd ⟨h,t,l,w,s,m⟩=DM h t l wd:=if_neg e;rw[e1,e2] at hb;cases wd
 ·exact (if_neg e).trans (jf hb λhb=>mw hb jh)
 ·exact (if_neg e).trans (mw hb jh)
 ·exact (if_neg e).trans (jf hb jh)
 ·exact (if_neg e).trans (jf hb λhb=>jf hb jh)
 ·refine (if_neg e).trans ?_
  by_cases e2:t<=h
  ·rw[show BA h t l .shift=[h+0] from if_pos e2,show DM h t l .shift=[t+0] from if_pos e2,Int.add_zero,Int.add_zero] at hb;exact (if_pos e2).trans (jf hb λhb=>mw hb jh)
  ·rw[show BA h t l .shift=[h+(l-1)] from if_neg e2,show DM h t l .shift=[t+(l-1)] from if_neg e2,<-Int.add_sub_assoc,<-Int.add_sub_assoc] at hb;exact (if_neg e2).trans (jf hb λhb=>mw hb jh)
 ·refine (if_neg e).trans ?_
  by_cases e2:l=1
  ·rw[show BA h t l .turn=[] from if_pos e2,show DM h t l .turn=[] from if_pos e2] at hb;exact jh hb
  ·rw[show BA h t l .turn=[h,h+l-1] from if_neg e2,show DM h t l .turn=[h,h+l-1] from if_neg e2] at hb;exact (if_neg e2).trans (jf hb λhb=>jf hb λhb=>mw hb λhb=>mw hb jh)
end
def ki {xs:List α}(h0:0<=i)(h1:i<xs.length):∃ v,j7 xs i=some v/\v ∈ xs:=by
 have hl:i.toNat<xs.length:=by omega
 refine ⟨xs[i.toNat],?_,List.getElem_mem hl⟩;have:=L2.dv (li hl)
 rwa [Int.toNat_of_nonneg h0] at this
def cZ {r:Int}(h0:0<=r)(h1:r<xs.length)(h:∀ v ∈ xs,P v):∃ v,j7 xs r=some v/\P v:=by
 obtain ⟨v,hv,hm⟩:=ki h0 h1;exact ⟨v,hv,h v hm⟩
abbrev inR (lo hi:Int)(v:V):Prop:=∃ i,v=v4 i/\lo<=i/\i<=hi
def inR.mk {lo hi:Int}(h0:lo<=i)(h1:i<=hi):inR lo hi (v4 i):=⟨i,rfl,h0,h1⟩
def HW {a b:V}(ha:P a)(hb:P b):∀ v ∈ [a,b],P v:=λv hv=>by
 simp only[lw,not_mem_nil,or_false] at hv;rcases hv with rfl|rfl<;>assumption
def JR {a b c:V}(ha:P a)(hb:P b)(hc:P c):∀ v ∈ [a,b,c],P v:=λv hv=>by
 simp only[lw,not_mem_nil,or_false] at hv;rcases hv with rfl|rfl|rfl<;>assumption
def LB {a b c d:V}(ha:P a)(hb:P b)(hc:P c)(hd:P d):∀ v ∈ [a,b,c,d],P v:=λv hv=>by
 simp only[lw,not_mem_nil,or_false] at hv;rcases hv with rfl|rfl|rfl|rfl<;>assumption
def yd {M:Int}(hk:2<=k)(s:Sep (hand h m::O) H)(hm:m<=1099510000000)(hM0:1<=M)(hM1:M<=60)(q:∀ i H',-1000000000<=i->i<=1000000000->Sep (hand h (m+6)::O) H'->Q (v4 i) H'):ab tab R k 94 [ut h,v4 M] H Q E:=by
 delta jn;walk_at "gd";rename_i wy H1 w0 w1 hs1;refine aA (λe=>?_) (λe=>?_)
 ·walk_at "gd";rename_i r H2 r0 r1 hs2;exact q _ _ nofun nofun (aj hs2 nofun)
 walk_at "gd";refine aA (λe2=>?_) (λe2=>?_)
 ·walk_at "gd";rename_i l H2 hs2;obtain ⟨v,hv,i,rfl,i0,i1⟩:=cZ (xs:=[v4 0,v4 (M-1)]) (P:=inR (-1000000000) 1000000000) (r:=wy-4) nofun (by simp;omega) (HW (.mk nofun nofun) (.mk nofun nofun));refine aJ (by grind) hv ?_;exact q _ _ i0 i1 (aj (hs2.sub (by ac_nf)) nofun)
 walk_at "gd";refine az (λe3=>?_) (λe3=>?_)
 ·walk_at "gd";rename_i a H2 a0 a1 hs2 b H3 b0 b1 hs3 l H4 hs4 c H5 c0 c1 hs5;obtain ⟨v,hv,i,rfl,i0,i1⟩:=cZ (xs:=[v4 (-1-a),v4 (M+b)]) (P:=inR (-1000000000) 1000000000) (r:=c) c0 (by simp;omega) (HW (.mk nofun nofun) (.mk nofun nofun));refine aJ (by grind) hv ?_;exact q _ _ i0 i1 (aj (hs5.sub (by ac_nf)) nofun)
 walk_at "gd";rename_i a H2 a0 a1 hs2 b H3 b0 b1 hs3 c H4 c0 c1 hs4 l H5 hs5 d H6 d0 d1 hs6;rw[ff] at hs6;obtain ⟨v,hv,i,rfl,i0,i1⟩:=cZ (xs:=[v4 (1000000000-a),v4 (b-1000000000),v4 c]) (P:=inR (-1000000000) 1000000000) (r:=d) d0 (by simp;omega) (JR (.mk nofun nofun) (.mk nofun nofun) (.mk nofun nofun));refine aJ (by grind) hv ?_;exact q _ _ i0 i1 (aj (hs6.sub (by ac_nf)) nofun)
abbrev qA:Nat->mM->mM
 |0,b=>b
 |n+1,.cons _ r=>qA n r
 |_+1,.nil=>.nil
def pF {p:Addr}{lf wy:Int}{cs:List Int}{v5 v6 v7:Option V}(hk:3<=k)(s:Sep (hand h m::pt p (wn (cs.map v4))::O) H)(hm:m<=1099509500000)(h1:1<=cs.length)(h60:cs.length<=60)(hc:fR cs)(l0:0<=lf)(l1:lf<=1000000000)
  (q:∀ d x H',Bx.ok x->Sep (ak d x::hand h (m+20)::pt p (wn (cs.map v4))::O) H'->Q (ut d) H'):
  wB (qA 4 gk.body) ⟨tab,R,ab tab R (k-1),true⟩ { nx:=λ_ H'=>Q wl H',rt:=Q } (λ_=>E) [some (ut h),some (ut p),some (v4 cs.length),some (v4 wy),some (v4 lf),v5,v6,v7] H:=by
 walk_at "gd";rename_i r H1 r0 r1 hs1;refine aJ (by grind) (ET r0 r1) ?_;walk_at "gd";refine mh (m:=m+1) nofun hs1 nofun (λct H2 c0 c1 hs2=>?_);walk_at "gd";rename_i l2 H3 hs3 r3 H4 r30 r31 hs4;obtain ⟨v,hv,sg,rfl,sg0,sg1⟩:=cZ (xs:=[v4 (gt cs r),v4 ct]) (P:=inR 0 1000000000) (r:=r3 / 3) nofun (by simp;omega) (HW (.mk (EL hc).1 (EL hc).2) (.mk c0 c1));refine aJ (by grind) hv ?_;walk_at "gd";refine yd (m:=m+5) (O:=pt p (wn (cs.map v4))::O) nofun (aj (hs4.sub (by ac_nf)) nofun) nofun nofun nofun (λhh H5 hh0 hh1 hs5=>?_);walk_at "gd";refine yd (m:=m+11) nofun (aj hs5 nofun) nofun nofun nofun (λtt H6 tt0 tt1 hs6=>?_);walk_at "gd";rename_i w2 H7 w20 w21 hs7;intro d hd;have hs8:=hs7.new (o:=.dK []) hd;generalize upd H7 d (.dK [])=H8 at hs8⊢;walk_at "gd";rename_i mt H9 mt0 mt1 hs9;refine AM hs9 (by ac_rfl) (λH10 hs10=>?_);refine q d ⟨hh,tt,lf,1-2*w2,sg,mt⟩ H10 ?_ ((aj hs10 nofun).pull .k1);refine ⟨⟨hh0,hh1⟩,⟨tt0,tt1⟩,⟨l0,l1⟩,?_,⟨sg0,sg1⟩,?_⟩<;>dsimp only<;>omega
def Hb {p:Addr}{cs:List Int}(hk:3<=k)(s:Sep (hand h m::pt p (wn (cs.map v4))::O) H)(hm:m<=1099509000000)(h1:1<=cs.length)(h60:cs.length<=60)(hc:fR cs)
  (q:∀ d x H',Bx.ok x->Sep (ak d x::hand h (m+30)::pt p (wn (cs.map v4))::O) H'->Q (ut d) H'):ab tab R k 95 [ut h,ut p] H Q E:=by
 delta gk;right;rw[ci];walk_at "gd";rename_i wy H1 w0 w1 hs1 a H2 a0 a1 hs2 b H3 b0 b1 hs3 c H4 c0 c1 hs4 l1 H5 hs5;obtain ⟨v,hv,lf,rfl,lf0,lf1⟩:=cZ (xs:=[v4 a,v4 b,v4 (cs.length+c)]) (P:=inR 0 1000000000) (r:=wy % 3) nofun (by simp;omega) (JR (.mk nofun nofun) (.mk nofun nofun) (.mk nofun nofun));refine aJ (by grind) hv ?_;have hs6:Sep (hand h (m+9)::pt p (wn (cs.map v4))::O) H5:=aj (hs5.sub (by ac_nf)) nofun;clear hs1 hs2 hs3 hs4 hs5 hv;left;refine jI rfl rfl ?_;left;refine az (λe=>?_) (λe=>?_)
 ·right;refine zi nofun hs6 nofun nofun nofun (λr H7 r0 r1 hs7=>?_);rw[ff];exact pF (m:=m+10) hk (aj hs7 nofun) nofun h1 h60 hc nofun nofun (λd x H' hx hs=>q d x H' hx (by rw[show m+30=m+10+20 by omega];exact hs))
 ·exact pF (m:=m+10) hk (aj hs6 nofun) nofun h1 h60 hc lf0 lf1 (λd x H' hx hs=>q d x H' hx (by rw[show m+30=m+10+20 by omega];exact hs))
def yk (ro:Ro K R)(hk:5<=k)(hx:x.ok)(z:Sep (ak d x::O) H)(q:∀ b H',Sep (aH R b x::ak d x::O) H'->Q (ut b) H'):ab tab R k 104 [ut d] H Q E:=by
 obtain ⟨h,t,l,w,s,m⟩:=x;delta gR;walk_at "wd";intro b dx g1 g2 g3;exact zw ro nofun hx (jA z g1 g2 g3) (λH2 z2=>⟨rfl,q b H2 z2⟩)
abbrev Wd.cl:Wd->Nat
 | .copy=>16
 | .fill=>17
 | .seek=>18
 | .mtch=>19
 | .shift=>20
 | .turn=>21
def Am:(rH.zip (x.ls.map v4)).map (·.2)=x.ls.map v4:=rfl
inductive Bn where
 |h
 |t
 |l
 |w
 |s
 |m
abbrev Bn.j:Bn->Nat
 | .h=>0
 | .t=>1
 | .l=>2
 | .w=>3
 | .s=>4
 | .m=>5
abbrev Bn.nm:Bn->Str
 | .h=>"here"
 | .t=>"there"
 | .l=>"left"
 | .w=>"way"
 | .s=>"sign"
 | .m=>"met"
def Bn.at (b:Bn):jw[b.j]? =some b.nm:=by cases b<;>rfl
abbrev Bx.g (x:Bx):Bn->Int
 | .h=>x.h
 | .t=>x.t
 | .l=>x.l
 | .w=>x.w
 | .s=>x.s
 | .m=>x.m
abbrev Bx.p (x:Bx)(i:Int):Bn->Bx
 | .h=>⟨i,x.t,x.l,x.w,x.s,x.m⟩
 | .t=>⟨x.h,i,x.l,x.w,x.s,x.m⟩
 | .l=>⟨x.h,x.t,i,x.w,x.s,x.m⟩
 | .w=>⟨x.h,x.t,x.l,i,x.s,x.m⟩
 | .s=>⟨x.h,x.t,x.l,x.w,i,x.m⟩
 | .m=>⟨x.h,x.t,x.l,x.w,x.s,i⟩
def Bx.gl (x:Bx)(b:Bn):x.ls[b.j]? =some (x.g b):=by cases b<;>rfl
def Bx.pl (x:Bx)(i:Int)(b:Bn):x.ls.set b.j i=(x.p i b).ls:=by cases b<;>rfl
abbrev a9 (b:Bn)(i:Int):Bool:=bA b.j (v4 i)
def yG {b:Bn}(h:a9 b i=true)(o:x.ok):(x.p i b).ok:=by
 obtain ⟨o1,o2,o3,o4,o5,o6⟩:=o;cases b
 ·have h:(decide (-1000000000<=i)&&decide (i<=1000000000))=true:=h;have h: -1000000000<=i/\i<=1000000000:=by simpa using h
  exact ⟨h,o2,o3,o4,o5,o6⟩
 ·have h:(decide (-1000000000<=i)&&decide (i<=1000000000))=true:=h;have h: -1000000000<=i/\i<=1000000000:=by simpa using h
  exact ⟨o1,h,o3,o4,o5,o6⟩
 ·have h:(decide (0<=i)&&decide (i<=1000000000))=true:=h;have h:0<=i/\i<=1000000000:=by simpa using h
  exact ⟨o1,o2,h,o4,o5,o6⟩
 ·have h:(i ==1||i == -1)=true:=h;have h:i=1\/i= -1:=by simpa using h
  exact ⟨o1,o2,o3,h,o5,o6⟩
 ·have h:(decide (0<=i)&&decide (i<=1000000000))=true:=h;have h:0<=i/\i<=1000000000:=by simpa using h
  exact ⟨o1,o2,o3,o4,h,o6⟩
 ·have h:(i ==0||i ==1)=true:=h;have h:i=0\/i=1:=by simpa using h
  exact ⟨o1,o2,o3,o4,o5,h⟩
def En {r:Int}(h0:0<=r)(h1:r<6):∃ b:Bn,j7 [wf "here",wf "there",wf "left",wf "way",wf "sign",wf "met"] r=some (wf b.nm):=by
 have:r=0\/r=1\/r=2\/r=3\/r=4\/r=5:=by omega
 rcases this with rfl|rfl|rfl|rfl|rfl|rfl
 ·exact ⟨.h,rfl⟩
 ·exact ⟨.t,rfl⟩
 ·exact ⟨.l,rfl⟩
 ·exact ⟨.w,rfl⟩
 ·exact ⟨.s,rfl⟩
 ·exact ⟨.m,rfl⟩
def LH {b:Addr}{n:Bn}(ro:Ro K R)(hk:4<=k)(z:Sep (aH R b x::O) H)(q0:a9 n i=true->∀ H',Sep (aH R b (x.p i n)::O) H'->Q wl H')
  (q1:a9 n i=false->∀ e H',Sep (lC (R.cad 3) [("box",wf n.nm),("number",v4 i)] e false::aH R b x::O) H'->E e H'):ab tab R k 15 [ut b,wf n.nm,v4 i] H Q E:=by
 cases h:a9 n i with
 |true=>exact vd ro hk z .e n.at h (x.pl i n) (yG h) (q0 h)
 |false=>
  obtain ⟨o,z2⟩:=dR z;exact sJ ro hk z2 n.at rfl h λe d H' z3=>q1 h e H' (iU (Sep.push .k2 (lZ o (z3.pull .k2))))
def Cf {b:Addr}{n:Bn}(ro:Ro K R)(hk:2<=k)(z:Sep O H)(p:af (aH R b x) O Δ)(q:Q (v4 (x.g n)) H):ab tab R k 14 [ut b,wf n.nm] H Q E:=dH ro hk (dR (z.pull p)).2 n.at (x.gl n) q
def oY {n:Bn}(z:Sep O H)(p:af (ak d x) O Δ)(q:Q (v4 (x.g n)) H):qj K (ut d) (wf n.nm) H Q:=by
 refine oz (k:=.inr n.nm) (v:=v4 (x.g n)) (z.get p) ?_ q;cases n<;>rfl
def E9 {n:Bn}{P:Hp->Prop}(z:Sep O H)(r:aI (ak d x) (ak d (x.p i n)) O Γ')(q:∀ H',Sep Γ' H'->P H'):gH (ut d) (wf n.nm) (v4 i) H P:=uI z r n.at (x.pl i n) q
inductive Sp where
 |set (b:Bn) (i:Int)
 |add (b:Bn) (i:Int)
 |take (b c:Bn)
 |read (b:Bn)
 |write (b:Bn)
abbrev Sp.w:Sp->Str
 | .set _ _=>"set"
 | .add _ _=>"add"
 | .take _ _=>"take"
 | .read _=>"read"
 | .write _=>"write"
abbrev Sp.b:Sp->Bn
 | .set b _=>b
 | .add b _=>b
 | .take b _=>b
 | .read b=>b
 | .write b=>b
abbrev Sp.tl:Sp->List V
 | .set b i=>[wf "set",wf b.nm,v4 i]
 | .add b i=>[wf "add",wf b.nm,v4 i]
 | .take b c=>[wf "take",wf b.nm,wf c.nm]
 | .read b=>[wf "read",wf b.nm]
 | .write b=>[wf "write",wf b.nm]
abbrev Sp.cl:Sp->Nat
 | .set _ _=>11
 | .add _ _=>12
 | .take _ _=>13
 | .read _=>14
 | .write _=>15
abbrev Sp.fs:Sp->List (Str×V)
 | .set b i=>[("box",wf b.nm),("number",v4 i)]
 | .add b i=>[("box",wf b.nm),("number",v4 i)]
 | .take b c=>[("box",wf b.nm),("other",wf c.nm)]
 | .read b=>[("box",wf b.nm)]
 | .write b=>[("box",wf b.nm)]
abbrev Sp.ok:Sp->Prop
 | .set _ i=>-1000000000<=i/\i<=1000000000
 | .add _ i=>-1000000000<=i/\i<=1000000000
 |_=>True
inductive sM where
 |on (x:Bx) (cs:List Int)
 |no (d:Str) (c:Int)
 |nf (b:Bn) (i:Int)
abbrev ba (x:Bx)(cs:List Int)(b:Bn)(i:Int):sM:=if a9 b i=true then .on (x.p i b) cs else .nf b i
abbrev gc (x:Bx)(cs:List Int)(ws:List Str):Sp->sM
 | .set b i=>ba x cs b i
 | .add b i=>ba x cs b (x.g b+i)
 | .take b c=>ba x cs b (x.g c)
 | .read b=>if ai ws "look" x.h=true then ba x cs b (gt cs x.h) else .no "look" x.h
 | .write b=>if dD (v4 (x.g b))=true then (if ai ws "put" x.t=true then .on x (cs.set x.t.toNat (x.g b)) else .no "put" x.t) else .nf b (x.g b)
abbrev sd (R:Rt)(d:Addr)(sp:Sp):aq:=bx λdx:Addr=>[pt d (wr (R.cad sp.cl) dx sp.fs),pt dx (.own d)]
def DI (s:Sep (pt d (wr (R.cad sp.cl) dx sp.fs)::pt dx (.own d)::O) H):Sep (sd R d sp::O) H:=gf dx s
def uH (s:Sep O H)(p:af (sd R d sp) O Δ):∃ dx,H d=some (wr (R.cad sp.cl) dx sp.fs):=by
 obtain ⟨dx,s⟩:=fw (s.pull p);exact ⟨dx,Sep.at s⟩
def Km:Ob R (sd R d sp) d sp.cl (sp.fs.map (·.1)):=by
 rintro H D ⟨dx,D1,D2,_,_,_,⟨_,h⟩,_⟩;exact ⟨dx,_,h,rfl⟩
def cg {w:Str}{n:Bn}(ro:Ro K R)(hk:2<=k)(q:Q wl H):ab tab R k 18 [wf w,wf n.nm] H Q E:=by
 delta iZ;right;refine nK (t:="str") ro nofun rfl ?_;rw[sx n.at];right;exact q
def eo {w:Str}(ro:Ro K R)(hk:3<=k)(h0: -1000000000<=i)(h1:i<=1000000000)(q:Q wl H):ab tab R k 19 [wf w,v4 i] H Q E:=by
 delta eD;right;refine d7 (t:="int") ro nofun rfl ?_;rw[show eW (v4 i)=true by simp[eW,h0,h1]];right;exact q
def IC {x:Addr}{n:Bn}(ro:Ro K R)(hk:4<=k)(h0: -1000000000<=i)(h1:i<=1000000000)(z:Sep (pt x (wr (R.cad 11) dx [])::pt dx (.own x)::O) H)(q:∀ H',Sep (sd R x (.set n i)::O) H'->Q wl H'):ab tab R k 20 [ut x,wf n.nm,v4 i] H Q E:=by
 delta dY;right;refine cg ro nofun ?_;right;refine eo ro nofun h0 h1 ?_;right;exact q _ (DI (by assumption))
def HU {x:Addr}{n:Bn}(ro:Ro K R)(hk:4<=k)(h0: -1000000000<=i)(h1:i<=1000000000)(z:Sep (pt x (wr (R.cad 12) dx [])::pt dx (.own x)::O) H)(q:∀ H',Sep (sd R x (.add n i)::O) H'->Q wl H'):ab tab R k 23 [ut x,wf n.nm,v4 i] H Q E:=by
 delta eE;right;refine cg ro nofun ?_;right;refine eo ro nofun h0 h1 ?_;right;exact q _ (DI (by assumption))
def Jk {x:Addr}{n m:Bn}(ro:Ro K R)(hk:4<=k)(z:Sep (pt x (wr (R.cad 13) dx [])::pt dx (.own x)::O) H)(q:∀ H',Sep (sd R x (.take n m)::O) H'->Q wl H'):ab tab R k 26 [ut x,wf n.nm,wf m.nm] H Q E:=by
 delta dN;right;refine cg ro nofun ?_;right;refine cg ro nofun ?_;right;exact q _ (DI (by assumption))
def Kn {x:Addr}{n:Bn}(ro:Ro K R)(hk:4<=k)(z:Sep (pt x (wr (R.cad 15) dx [])::pt dx (.own x)::O) H)(q:∀ H',Sep (sd R x (.write n)::O) H'->Q wl H'):ab tab R k 32 [ut x,wf n.nm] H Q E:=by
 delta dq;right;refine cg ro nofun ?_;right;exact q _ (DI (by assumption))
abbrev jS:V->Bool
 | v4 i=>decide (0<=i)&&decide (i<=24)
 |_=>false
abbrev HP:V->Bool
 | wl=>true
 | v4 i=>i ==0||i ==1
 |_=>false
def wV {t:String}(ro:Ro K R)(hk:2<=k)(ht:tyName v H=some t)(q:Q (.bl (jS v)) H):ab tab R k 86 [v] H Q E:=by
 delta mj;right;refine a8 nofun ht ?_;cases jt ht
 case int i=>
  right;refine aA (λh0=>?_) (λh0=>?_)
  ·left;simp only[ro.g_MOST_HOPPED];right;rw[show jS (v4 i)=decide (i<=24) by simp[jS,h0]] at q;exact q
  ·right;rw[show jS (v4 i)=false by simp[jS,h0]] at q;exact q
 all_goals
  right;exact q
def Cz {t:String}(hk:2<=k)(ht:tyName v H=some t)(q:Q (.bl (HP v)) H):ab tab R k 87 [v] H Q E:=by
 delta vB;right;refine iz ?_;cases jt ht
 case int i=>
  left;refine aw rfl ?_;right;refine a8 (t:="int") nofun rfl ?_;right;refine az (λh0=>?_) (λh0=>?_)
  ·right;rw[show HP (v4 i)=true by simp[HP,h0]] at q;exact q
  ·right;rw[show HP (v4 i)=(i ==1) by simp[HP,h0]] at q;exact q
 case non=>
  left;refine aN rfl ?_;exact q
 all_goals
  left;refine aw rfl ?_;right;refine a8 nofun ht ?_;right;exact q
abbrev oV:Option Int->V
 |none=>wl
 |some i=>v4 i
abbrev Lf:Option Int->Prop
 |none=>True
 |some i=>i=0\/i=1
abbrev HQ (R:Rt)(d:Addr)(n:Int)(o:Option Int):aq:=bx λdx:Addr=>[pt d (wr (R.cad 25) dx [("many",v4 n),("on",oV o)]),pt dx (.own d)]
def K3 {n:Int}(s:Sep (pt d (wr (R.cad 25) dx [("many",v4 n),("on",oV o)])::pt dx (.own d)::O) H):Sep (HQ R d n o::O) H:=gf dx s
def JE {n:Int}(s:Sep O H)(p:af (HQ R d n o) O Δ):∃ dx,H d=some (wr (R.cad 25) dx [("many",v4 n),("on",oV o)]):=by
 obtain ⟨dx,s⟩:=fw (s.pull p);exact ⟨dx,Sep.at s⟩
def Ji {n:Int}:Ob R (HQ R d n o) d 25 ["many","on"]:=by
 rintro H D ⟨dx,D1,D2,_,_,_,⟨_,h⟩,_⟩;exact ⟨dx,_,h,rfl⟩
def IZ {x:Addr}{n:Int}(ro:Ro K R)(hk:4<=k)(h0:0<=n)(h1:n<=24)(ho:Lf o)(z:Sep (pt x (wr (R.cad 25) dx [])::pt dx (.own x)::O) H)(q:∀ H',Sep (HQ R x n o::O) H'->Q wl H'):ab tab R k 88 [ut x,v4 n,oV o] H Q E:=by
 delta eh;right;refine wV (t:="int") ro nofun rfl ?_;rw[show jS (v4 n)=true by simp[jS,h0,h1]];right;obtain ⟨t,ht⟩:∃ t,tyName (oV o) H=some t:=by cases o<;>exact ⟨_,rfl⟩
 refine Cz nofun ht ?_;rw[show HP (oV o)=true by cases o with|none=>rfl|some i=>rcases ho with rfl|rfl<;>rfl];right;exact q _ (K3 (by assumption))
abbrev Hs (n:Int)(o:Option Int)(m:Int):Int:=match o with
 |none=>1+n
 |some i=>if i=m then 1+n else 1
def Dt {b:Addr}{n:Int}(ro:Ro K R)(hk:3<=k)(z:Sep O H)(p1:af (HQ R d n o) O Δ)(p2:af (aH R b x) O Δ')(q:Q (v4 (Hs n o x.m)) H):ab tab R k 89 [ut d,ut b,v] H Q E:=by
 delta kg;obtain ⟨dx,e⟩:=JE z p1;right;refine bY e rfl rfl rfl ?_;right;refine iz ?_;cases o with
 |none=>
  left;refine aN rfl ?_;right;refine bY e rfl rfl rfl ?_;right;exact q
 |some i=>
  left;refine aw rfl ?_;right;refine bY e rfl rfl rfl ?_;right;refine ah bq z p2 rfl rfl ?_;left;refine bI (vs':=[_,_]) rfl ?_;obtain ⟨h,t,l,w,s,m⟩:=x;refine Kh ro nofun z p2 ?_;right;have q:Q (v4 (if i=m then 1+n else 1)) H:=q;refine az (λh0=>?_) (λh0=>?_)
  ·rw[if_pos h0] at q;right;refine bY e rfl rfl rfl ?_;right;exact q
  ·rw[if_neg h0] at q;right;exact q
def nh {n:Bn}(hk:1<=k)(q:Q (.bl (a9 n i)) H):ab tab R k 99 [wf n.nm,v4 i] H Q E:=by
 delta i7;cases n
 all_goals right
 all_goals repeat walk_at "sc"
 ·rw[ff];refine aA (λh0=>?_) (λh0=>?_)
  ·right;rw[ff];rw[show a9 .h i=decide (i<=1000000000) by simp[a9,Bn.j,bA,eW,h0]] at q;exact q
  ·right;rw[show a9 .h i=false by simp[a9,Bn.j,bA,eW,h0]] at q;exact q
 ·rw[ff];refine aA (λh0=>?_) (λh0=>?_)
  ·right;rw[ff];rw[show a9 .t i=decide (i<=1000000000) by simp[a9,Bn.j,bA,eW,h0]] at q;exact q
  ·right;rw[show a9 .t i=false by simp[a9,Bn.j,bA,eW,h0]] at q;exact q
 ·refine aA (λh0=>?_) (λh0=>?_)
  ·right;rw[ff];rw[show a9 .l i=decide (i<=1000000000) by simp[a9,Bn.j,bA,dD,h0]] at q;exact q
  ·right;rw[show a9 .l i=false by simp[a9,Bn.j,bA,dD,h0]] at q;exact q
 ·refine az (λh0=>?_) (λh0=>?_)
  ·right;rw[show a9 .w i=true by simp[a9,Bn.j,bA,lK,h0]] at q;exact q
  ·right;rw[show a9 .w i=(i == -1) by simp[a9,Bn.j,bA,lK,h0]] at q;exact q
 ·refine aA (λh0=>?_) (λh0=>?_)
  ·right;rw[ff];rw[show a9 .s i=decide (i<=1000000000) by simp[a9,Bn.j,bA,dD,h0]] at q;exact q
  ·right;rw[show a9 .s i=false by simp[a9,Bn.j,bA,dD,h0]] at q;exact q
 ·refine az (λh0=>?_) (λh0=>?_)
  ·right;rw[show a9 .m i=true by simp[a9,Bn.j,bA,lK,h0]] at q;exact q
  ·right;rw[show a9 .m i=(i ==1) by simp[a9,Bn.j,bA,lK,h0]] at q;exact q
inductive Rw where
 |lg (w:Wd)
 |sp (s:Sp)
 |hop (n:Int) (o:Option Int)
abbrev Rw.tl:Rw->List V
 | .lg w=>[wf w.s]
 | .sp s=>s.tl
 | .hop n o=>[wf "hop",v4 n,oV o]
abbrev Rw.ok:Rw->Prop
 | .lg _=>True
 | .sp s=>s.ok
 | .hop n o=>(0<=n/\n<=24)/\Lf o
abbrev Rw.cl:Rw->Nat
 | .lg w=>w.cl
 | .sp s=>s.cl
 | .hop _ _=>25
abbrev lj (R:Rt)(d:Addr):Rw->aq
 | .lg w=>dd R d w.cl
 | .sp s=>sd R d s
 | .hop n o=>HQ R d n o
abbrev Rw.fs:Rw->List Str
 | .lg _=>[]
 | .sp s=>s.fs.map (·.1)
 | .hop _ _=>["many","on"]
def Ef (r:Rw):Ob R (lj R d r) d r.cl r.fs:=by
 cases r with
 |lg w=>exact Ir
 |sp s=>exact Km
 |hop n o=>exact Ji
variable {r:Rw}
def DP (z:Sep O H)(p:af (lj R d r) O Δ):∃ dx fs,H d=some (wr (R.cad r.cl) dx fs):=by
 obtain ⟨D,k,D1,D2,s1,s2,dj,h1,h2⟩:=z.pull p;obtain ⟨dx,fs,e,_⟩:=Ef r H D1 h1;exact ⟨dx,fs,e⟩
inductive dX where
 |on (r:Int) (x:Bx) (cs:List Int)
 |no (d:Str) (c:Int)
 |nf (b:Bn) (i:Int)
abbrev ofM:Out->dX
 | .on r x cs=>.on r x cs
 | .no d c=>.no d c
abbrev g5:sM->dX
 | .on x cs=>.on 1 x cs
 | .no d c=>.no d c
 | .nf b i=>.nf b i
abbrev cf (x:Bx)(cs:List Int)(ws:List Str):Rw->dX
 | .lg w=>ofM (ck w x cs ws)
 | .sp s=>g5 (gc x cs ws s)
 | .hop n o=>.on (Hs n o x.m) x cs
def wt {cs:List Int}(ro:Ro K R)(hk:5<=k)(z:Sep O H)(p:af (A7 R a cs ws) O Δ)(q:∀ c H',Sep (A7 R c cs ws::O) H'->Q (ut c) H'):ab tab R k 69 [ut a] H Q E:=by
 delta dZ;have ok:=F8 z p;right;rename_i l H1 z1;intro c dx g1 g2 g3;refine uf (cs:=[0]) ro nofun (by decide) (by decide) (λi hi=>by rw[mem_singleton.mp hi];decide) (jA z1 g1 g2 g3) .e (λH2 z2=>⟨rfl,?_⟩);obtain ⟨_,z3⟩:=zr z2;obtain ⟨dx1,c1,d1,z4⟩:=rj z3;obtain ⟨_,z5⟩:=zr (z4.pull (.j2 (.j2 (.t p))));obtain ⟨dx2,c2,d2,z6⟩:=rj z5;clear z1 z2 z3 z4 z5;right;rename_i l3 H3 z7 H4 z8 l5 H5 z9 H6 z10;refine q c H6 ?_;have z11:Sep (pt c (wr (R.cad 23) dx1 [("contents",ut l3),("permits",ut l5)])::pt dx1 (.own c)::pt l3 (wn (cs.map v4))::pt l5 (wn (ws.map wf))::pt a (wr (R.cad 23) dx2 [("contents",ut c2),("permits",ut d2)])::pt dx2 (.own a)::pt c2 (wn (cs.map v4))::pt d2 (wn (ws.map wf))::Δ) H6:=z10.sub (by ac_nf);have z12:=Ac ok (kA z11);have z13:Sep (pt a (wr (R.cad 23) dx2 [("contents",ut c2),("permits",ut d2)])::pt dx2 (.own a)::pt c2 (wn (cs.map v4))::pt d2 (wn (ws.map wf))::A7 R c cs ws::Δ) H6:=z12.sub (by ac_nf);exact Sep.push (.t p) (Ac ok (kA z13))
def xl {b:Addr}(ro:Ro K R)(hk:5<=k)(z:Sep O H)(p:af (aH R b x) O Δ)(q:∀ c H',Sep (aH R c x::O) H'->Q (ut c) H'):ab tab R k 17 [ut b] H Q E:=by
 obtain ⟨o,z2⟩:=dR (z.pull p);refine wq ro hk z2 (λc H' z3=>q c H' ?_);have z4:=lZ o z3;have z5:=lZ o (z4.pull .k1);exact Sep.push (.t p) z5
abbrev xj (R:Rt)(m l s b:Addr)(at_:Int)(ds:List V):aq:=bx λdx:Addr=>[pt m (wr (R.cad 22) dx [("deeds",ut l),("store",ut s),("boxes",ut b),("at",v4 at_)]),pt dx (.own m),pt l (wn ds)]
def Gi {m l s b:Addr}(z:Sep (xj R m l s b at_ ds::O) H):∃ dx,Sep (pt m (wr (R.cad 22) dx [("deeds",ut l),("store",ut s),("boxes",ut b),("at",v4 at_)])::pt dx (.own m)::pt l (wn ds)::O) H:=fw z
def DJ {m l s b:Addr}(z:Sep (pt m (wr (R.cad 22) dx [("deeds",ut l),("store",ut s),("boxes",ut b),("at",v4 at_)])::pt dx (.own m)::pt l (wn ds)::O) H):Sep (xj R m l s b at_ ds::O) H:=gf dx z
def Ek {m l s b:Addr}:Ob R (xj R m l s b at_ ds) m 22 ["deeds","store","boxes","at"]:=by
 rintro H D ⟨dx,D1,D2,_,_,_,⟨_,h⟩,_⟩;exact ⟨dx,_,h,rfl⟩
abbrev Fw (R:Rt)(O:List aq)(ds:List V):Prop:=∀ v ∈ ds,∃ a r Δ,v=ut a/\af (lj R a r) O Δ
def uA (r:Rw):tab.oc.contains r.cl=true/\tab.sub.lookup (r.cl,10)=some true:=by
 cases r with
 |lg w=>cases w<;>exact ⟨rfl,rfl⟩
 |sp s=>cases s<;>exact ⟨rfl,rfl⟩
 |hop n o=>exact ⟨rfl,rfl⟩
def hR {l:Addr}(ro:Ro K R)(hk:1<=k)(h0:1<=ds.length)(h1:ds.length<=24)(z:Sep O H)(p:af (pt l (wn ds)) O Δ)(hd:Fw R O ds)(q:∀ H',Sep O H'->Q wl H'):ab tab R k 53 [ut l] H Q E:=by
 delta ig;left;refine d4 (t:="list") (E6 (z.get p)) rfl ?_;right;refine aO (z.get p) ?_;right;refine aA (λh=>?_) (λh=>absurd nofun h);left;simp only[ro.g_MOST_ROWS];right;refine aA (λh=>?_) (λh=>absurd nofun h);right;refine Gh (z.get p) ?_;refine oh (xs:=ds) (λj U H=>∃ u v,U=[some (ut l),u,v]/\Sep O H) ?_ ?_ ?_ ?_
 ·exact ⟨none,none,rfl,z⟩
 ·rintro j U H ⟨u,v,rfl,hs⟩;exact hs.get p
 ·rintro j x T U H hx ⟨u,v,rfl,hs⟩ hT;obtain ⟨a,r,Δ',rfl,hp⟩:=hd x (db hx);have hs4:=hs.iK (xs:=[v4 j,ut a]) hT;obtain ⟨dx,fs,e⟩:=DP hs4 (.t hp);left;refine ⟨T,_,rfl,.inl (aS.of hs4.atT),rfl,?_⟩;generalize upd H T _=H4 at hs4 e⊢;right;refine Ie e (uA r).1 (b:=true) (uA r).2 ?_;right;exact ⟨_,_,rfl,hs4.drop⟩
 ·rintro U H ⟨u,v,rfl,hs⟩;exact q _ hs
def lP {n:Int}(hk:2<=k)(h0:0<=at_)(h1:at_<=n)(q:Q wl H):ab tab R k 54 [v4 at_,v4 n] H Q E:=by
 delta fT;right;refine a8 (t:="int") nofun rfl ?_;right;refine aA (λh=>?_) (λh=>absurd h0 h);right;refine aA (λh=>?_) (λh=>absurd h1 h);right;exact q
def wN {m l s b:Addr}{cs:List Int}(ro:Ro K R)(hk:6<=k)(n0:1<=ds.length)(n1:ds.length<=24)(h0:0<=at_)(h1:at_<=ds.length){Δl Δs Δb:List aq}(pl:af (pt l (wn ds)) O Δl)(ps:af (A7 R s cs ws) O Δs)(pb:af (aH R b x) O Δb)(hd:Fw R O ds)
  (z:Sep (pt m (wr (R.cad 22) dx [])::pt dx (.own m)::O) H) (q:∀ l2 s2 b2 H',Sep (xj R m l2 s2 b2 at_ ds::A7 R s2 cs ws::aH R b2 x::O) H'->Q wl H'):ab tab R k 56 [ut m,ut l,ut s,ut b,v4 at_] H Q E:=by
 delta cI;right;refine hR ro nofun n0 n1 z (.j2 pl) (λv hv=>by
  obtain ⟨a,r,Δ',e,hp⟩:=hd v hv;exact ⟨a,r,_,e,.t (.t hp)⟩) (λH1 z1=>?_)
 right;refine aO (z1.get (.j2 pl)) ?_;right;refine lP nofun h0 h1 ?_;right;refine dw z1 (z1.get (.j2 pl)) (λl2 H2 z2=>?_);right;rename_i H3 z3;refine ah xW z3 (.j2 (.t ps)) rfl rfl ?_;left;refine wt ro nofun z3 (.j2 (.t ps)) (λs2 H4 z4=>?_);right;rename_i H5 z5;refine ah bq z5 (.j2 (.j2 pb)) rfl rfl ?_;left;refine xl ro nofun z5 (.j2 (.j2 pb)) (λb2 H6 z6=>?_);right;rename_i H7 z7 H8 z8;refine q l2 s2 b2 H8 (DJ (dx:=dx) ?_);exact z8.sub (by ac_nf)
abbrev dX.bx (x:Bx):dX->Bx
 | .on _ x' _=>x'
 |_=>x
abbrev dX.cs (cs:List Int):dX->List Int
 | .on _ _ cs'=>cs'
 |_=>cs
abbrev ML (t:Addr):dX->aq
 | .on r _ _=>tu t [v4 r,wl]
 | .no d c=>bx λte:Addr=>[tu t [wl,ut te],tu te [wf d,v4 c]]
 | .nf b _=>bx λte:Addr=>[tu t [wl,ut te],tu te [wf "fit",wf b.nm]]
abbrev cb (R:Rt)(O:List aq)(ds:List V)(rs:List Rw):Prop:=ds.length=rs.length/\∀ (i:Nat) (r:Rw),rs[i]? =some r->∃ a Δ,ds[i]? =some (ut a)/\af (lj R a r) O Δ
variable {rs:List Rw}
def cb.more (h:cb R O ds rs):cb R (A::O) ds rs:=⟨h.1,λi r e=>by
 obtain ⟨a,Δ,e2,p⟩:=h.2 i r e;exact ⟨a,_,e2,.t p⟩⟩
def cb.all (h:cb R O ds rs):Fw R O ds:=λv hv=>by
 obtain ⟨i,hi⟩:=getElem?_of_mem hv;have hl:=(sK.mp hi).1;obtain ⟨a,Δ,e2,p⟩:=h.2 i _ (li (by rw[<-h.1];exact hl));rw[hi] at e2;cases e2;exact ⟨a,_,Δ,rfl,p⟩
structure ME where
 w:Str
 at_:Int
 x:Bx
 cs:List Int
abbrev mS (rs:List Rw)(at_:Int)(x:Bx)(cs:List Int)(ws:List Str):ME:=match rs[at_.toNat]? with
 |none=>⟨"end",at_,x,cs⟩
 |some r=>match cf x cs ws r with
  | .on n x' cs'=>⟨"on",min (at_+n) rs.length,x',cs'⟩
  |_=>⟨"stop",at_,x,cs⟩
section
variable {m l s b:Addr}{at_:Int}{ds:List V}{rs:List Rw}{x:Bx}{cs:List Int}{ws:List Str}
def BJ (hk:1<=k)(z:Sep O H)(p:af (xj R m l s b at_ ds) O Δ)(q:Q (.bl (decide (at_=ds.length))) H):ab tab R k 57 [ut m] H Q E:=by
 delta dW;obtain ⟨dx,z1⟩:=Gi (z.pull p);right;have e:kQ (v4 at_) (v4 (ds.length:Int))=decide (at_=(ds.length:Int)):=by
  show (at_ ==(ds.length:Int))=_
  by_cases h:at_=(ds.length:Int)
  ·rw[decide_eq_true h,beq_iff_eq];exact h
  ·rw[decide_eq_false h];simpa using h
 rw[e];exact q
end
def JD:fin l=0\/fin l=1:=by
 unfold fin
 split
 ·exact .inr rfl
 ·exact .inl rfl
abbrev idx (wd:Wd)(x:Bx):Int:=match wd with
 | .fill=>x.t
 | .shift=>if x.t<=x.h then x.h else x.h+x.l-1
 |_=>x.h
abbrev dir (wd:Wd)(x:Bx):Int:=match wd with
 | .shift=>if x.t<=x.h then 1 else -1
 | .turn=>1
 |_=>x.w
abbrev gone (n:Nat)(w h h':Int):Prop:=h'=h\/(0<=h/\h<n)/\(h'=h+w\/h'=h+1)
def iL {d:Str}{w h:Int}(m:ai ws d h=true):gone ws.length w h (h+w):=.inr ⟨au m,.inl rfl⟩
def tE {d:Str}{w h:Int}(m:ai ws d h=true):gone ws.length w h (h+1):=.inr ⟨au m,.inr rfl⟩
abbrev Aj (x x':Bx)(n:Nat):Prop:=x'.w=x.w/\(0<=x.l->0<=x'.l)/\(x.ok->n<=60->x'.ok)
def cz {h' t' l' m':Int}(hh:gone n x.w x.h h')(ht:gone n x.w x.t t')(hl:0<=x.l->0<=l'/\l'<=x.l)(hm:m'=x.m\/m'=0\/m'=1):Aj x ⟨h',t',l',x.w,x.s,m'⟩ n:=by
 refine ⟨rfl,λz=>(hl z).1,λok hn=>?_⟩;obtain ⟨o1,o2,o3,o4,o5,o6⟩:=ok;have b:=hl o3.1;have gg:∀ {h h':Int},gone n x.w h h'-> -1000000000<=h/\h<=1000000000-> -1000000000<=h'/\h'<=1000000000:=λ{h h'} g o=>by
  rcases g with rfl|⟨g,e⟩
  ·exact o
  ·omega
 exact ⟨gg hh o1,gg ht o2,⟨b.1,Int.le_trans b.2 o3.2⟩,o4,o5,hm.elim (λe=>o6.imp (e.trans ·) (e.trans ·)) id⟩
def aQ {P:Out->Prop}{c:Prop} [Decidable c] {a b:Out}(h:c->P a)(g:¬ c->P b):P (if c then a else b):=by
 by_cases e:c
 ·rw[if_pos e];exact h e
 ·rw[if_neg e];exact g e
def HK (e:¬ l=0)(z:0<=l):0<=l+ -1/\l+ -1<=l:=by omega
section
variable {P:Out->Prop}{wd:Wd}{x:Bx}{cs:List Int}{ws:List Str}
def zT {j:Int}{f:List Int->Out}(no:∀ (d:Str) (c:Int),d="look"\/d="put"->P (.no d c)) (h:ai ws "look" i=true->ai ws "put" j=true->P (f (cs.set j.toNat (gt cs i)))):P (hm cs ws i j f):=
 aQ (λa=>aQ (h a) (λ_=>no _ _ (.inr rfl))) (λ_=>no _ _ (.inl rfl))
def zZ (done:∀ x',Aj x x' ws.length->P (.on 1 x' cs)) (no:∀ (d:Str) (c:Int),d="look"\/d="put"->P (.no d c))
  (go:∀ x' cs',Aj x x' ws.length->cs'.length=cs.length->(0<=idx wd x/\idx wd x<ws.length)/\idx wd x'=idx wd x+dir wd x/\dir wd x'=dir wd x->P (.on (fin x'.l) x' cs')):P (ck wd x cs ws):=by
 have sm:∀ {m':Int},m'=x.m\/m'=0\/m'=1->Aj x ⟨x.h,x.t,x.l,x.w,x.s,m'⟩ ws.length:=λe=>cz (.inl rfl) (.inl rfl) (λz=>⟨z,Int.le_refl _⟩) e
 have lk:∀ {c},P (.no "look" c):=no _ _ (.inl rfl);have pu:∀ {c},P (.no "put" c):=no _ _ (.inr rfl);cases wd
 ·exact aQ (λ_=>done _ (sm (.inl rfl))) λe=>zT no λa b=>go _ _ (cz (iL a) (iL b) (HK e) (.inl rfl)) (length_set ..) ⟨au a,rfl,rfl⟩
 ·exact aQ (λ_=>done _ (sm (.inl rfl))) λe=>aQ (λb=>go _ _ (cz (.inl rfl) (iL b) (HK e) (.inl rfl)) (length_set ..) ⟨au b,rfl,rfl⟩) λ_=>pu
 ·exact aQ (λ_=>done _ (sm (.inr (.inl rfl)))) λe=>aQ (λa=>aQ (λ_=>done _ (sm (.inr (.inr rfl)))) λ_=>go _ _ (cz (iL a) (.inl rfl) (HK e) (.inr (.inl rfl))) rfl ⟨au a,rfl,rfl⟩) λ_=>lk
 ·exact aQ (λ_=>done _ (sm (.inr (.inr rfl)))) λe=>aQ (λa=>aQ (λb=>aQ (λ_=>go _ _ (cz (iL a) (iL b) (HK e) (.inr (.inr rfl))) rfl ⟨au a,rfl,rfl⟩) λ_=>done _ (sm (.inr (.inl rfl)))) λ_=>lk) λ_=>lk
 ·refine aQ (λ_=>done _ (sm (.inl rfl))) λe=>aQ (λc=>zT no λa b=>go _ _ (cz (tE a) (tE b) (HK e) (.inl rfl)) (length_set ..) ?_) λc=>zT no λa b=>go _ _ (cz (.inl rfl) (.inl rfl) (HK e) (.inl rfl)) (length_set ..) ?_
  ·have g:=au a;unfold idx dir;dsimp only;rw[if_pos c,if_pos c,if_pos nofun,if_pos nofun];exact ⟨g,rfl,rfl⟩
  ·have g:=au a;unfold idx dir;dsimp only;rw[if_neg c,if_neg c];exact ⟨g,by omega,rfl⟩
 ·exact aQ (λ_=>done _ (sm (.inl rfl))) λe=>aQ (λc=>done _ (cz (.inl rfl) (.inl rfl) (λz=>⟨Int.le_refl _,z⟩) (.inl rfl))) λc=>
   aQ (λa=>aQ (λ_=>aQ (λ_=>aQ (λ_=>go _ _ (cz (tE a) (.inl rfl) (λz=>by omega) (.inl rfl)) ((length_set ..).trans (length_set ..)) ⟨au a,rfl,rfl⟩) λ_=>pu) λ_=>pu) λ_=>lk) λ_=>lk
end
variable {x':Bx}
def nc {cs:List Int}{r:Int}(h:ck wd x cs ws=.on r x' cs'):
  Aj x x' ws.length/\cs'.length=cs.length/\(r=0\/r=1)/\(r=0->(0<=idx wd x/\idx wd x<ws.length)/\idx wd x'=idx wd x+dir wd x/\dir wd x'=dir wd x):=by
 revert h
 refine zZ (P:=λo=>o=.on r x' cs'->_) (λy w e=>?_) (λ_ _ _ e=>by cases e) (λy c w l g e=>?_)
 ·cases e;exact ⟨w,rfl,.inr rfl,λz=>by cases z⟩
 ·cases e;exact ⟨w,l,JD,λ_=>g⟩
def Au {cs:List Int}{r:Int}(h:ck wd x cs ws=.on r x' cs'):
  (r=0\/r=1)/\x'.w=x.w/\(r=0->0<=idx wd x/\idx wd x<ws.length/\idx wd x'=idx wd x+dir wd x/\dir wd x'=dir wd x):=
 have ⟨w,_,r,g⟩:=nc h
 ⟨r,w.1,λz=>⟨(g z).1.1,(g z).1.2,(g z).2⟩⟩
def vy {cs:List Int}{n:Int}(ok:r.ok)(h:cf x cs ws r=.on n x' cs'):0<=n:=by
 cases r with
 |lg w=>
  have h:ofM (ck w x cs ws)=.on n x' cs':=h;cases e:ck w x cs ws with
  |no d c=>rw[e] at h;cases h
  |on r y ys=>
   rw[e] at h;cases h;rcases (Au e).1 with rfl|rfl<;>decide
 |hop m o=>
  cases h;have:=ok.1;cases o with
  |none=>show 0<=1+m;omega
  |some i=>
   show 0<=(if i=x.m then 1+m else 1)
   split<;>omega
 |sp s=>
  have h:g5 (gc x cs ws s)=.on n x' cs':=h;cases e:gc x cs ws s with
  |on y ys=>rw[e] at h;cases h;decide
  |no d c=>rw[e] at h;cases h
  |nf b i=>rw[e] at h;cases h
def EU {cs:List Int}(h0:0<=at_)(h1:at_<=rs.length)(hn:∀ r ∈ rs,Rw.ok r):0<=(mS rs at_ x cs ws).at_/\(mS rs at_ x cs ws).at_<=rs.length/\((mS rs at_ x cs ws).w="on"\/((mS rs at_ x cs ws).w="end"\/(mS rs at_ x cs ws).w="stop")/\(mS rs at_ x cs ws).at_=at_/\(mS rs at_ x cs ws).x=x/\(mS rs at_ x cs ws).cs=cs):=by
 unfold mS;cases e:rs[at_.toNat]? with
 |none=>exact ⟨h0,h1,.inr ⟨.inl rfl,rfl,rfl,rfl⟩⟩
 |some r=>
  have ok:=hn r (db e);dsimp only;cases ho:cf x cs ws r with
  |no d c=>exact ⟨h0,h1,.inr ⟨.inr rfl,rfl,rfl,rfl⟩⟩
  |nf b i=>exact ⟨h0,h1,.inr ⟨.inr rfl,rfl,rfl,rfl⟩⟩
  |on n x' cs'=>
   have hn0:0<=n:=vy ok ho;refine ⟨?_,?_,.inl rfl⟩
   ·show 0<=min (at_+n) (rs.length:Int)
    omega
   ·show min (at_+n) (rs.length:Int)<=rs.length
    omega
def yD {cs:List Int}{r:Int}(hx:0<=x.l)(h:ck wd x cs ws=.on r x' cs'):0<=x'.l/\cs'.length=cs.length:=
 ⟨(nc h).1.2.1 hx,(nc h).2.1⟩
def za:¬ (Str.ofString "end")=Str.ofString "on":=by decide+kernel
def jO:¬ (Str.ofString "stop")=Str.ofString "on":=by decide+kernel
abbrev Af (x:Bx):Prop:=x.w=1\/x.w= -1
def Kf {b:Bn}(h:a9 b i=true)(o:Af x):Af (x.p i b):=by
 cases b<;>first|exact o|skip
 have h:(i ==1||i == -1)=true:=h;have h:i=1\/i= -1:=by simpa using h
 exact h
def uD {cs:List Int}{b:Bn}(o:Af x)(h:ba x cs b i=.on x' cs'):Af x':=by
 unfold ba at h
 split at h
 ·rename_i e;cases h;exact Kf e o
 ·cases h
def Ht {cs:List Int}{s:Sp}(o:Af x)(h:gc x cs ws s=.on x' cs'):Af x':=by
 cases s with
 |set b i=>exact uD o h
 |add b i=>exact uD o h
 |take b c=>exact uD o h
 |read b=>
  have h:(if ai ws "look" x.h=true then ba x cs b (gt cs x.h) else .no "look" x.h)=.on x' cs':=h
  split at h
  ·exact uD o h
  ·cases h
 |write b=>
  have h:(if dD (v4 (x.g b))=true then (if ai ws "put" x.t=true then sM.on x (cs.set x.t.toNat (x.g b)) else .no "put" x.t) else .nf b (x.g b))=.on x' cs':=h
  split at h
  ·split at h
   ·cases h;exact o
   ·cases h
  ·cases h
abbrev Mu (N:Nat)(x:Bx):Rw->Nat
 | .lg w=>min 61 (if dir w x=1 then (N:Int)-idx w x else idx w x+1).toNat
 |_=>0
def Ha:Mu N x r<=61:=by
 cases r with
 |lg w=>exact Nat.min_le_left _ _
 |_=>exact Nat.zero_le _
abbrev sr (rs:List Rw)(N:Nat)(at_:Int)(x:Bx):Nat:=match rs[at_.toNat]? with
 |none=>0
 |some r=>(rs.length-at_.toNat)*62+Mu N x r
def sQ:sr rs N at_ x<=(rs.length-at_.toNat)*62+61:=by
 unfold sr
 split
 ·exact Nat.zero_le _
 ·have:=Ha (N:=N) (x:=x) (r:=‹Rw›)
  omega
def Bt {w:Wd}(o:Af x):dir w x=1\/dir w x= -1:=by
 cases w<;>first|exact o|skip
 ·show (if x.t<=x.h then (1:Int) else -1)=1\/(if x.t<=x.h then (1:Int) else -1)= -1
  split<;>simp
 ·exact .inl rfl
def pE {cs:List Int}(o:Af x)(h0:0<=at_)(hok:∀ r ∈ rs,Rw.ok r) (hN:ws.length<=60) (h:(mS rs at_ x cs ws).w="on"):sr rs ws.length (mS rs at_ x cs ws).at_ (mS rs at_ x cs ws).x<sr rs ws.length at_ x/\Af (mS rs at_ x cs ws).x:=by
 unfold mS at h⊢;cases e:rs[at_.toNat]? with
 |none=>rw[e] at h;exact absurd h za
 |some r=>
  rw[e] at h;dsimp only at h⊢;have hlt:=(sK.mp e).1;have far:∀ {n:Int}{x':Bx},1<=n->sr rs ws.length (min (at_+n) (rs.length:Int)) x'<sr rs ws.length at_ x:=λ{n x'} hn=>by
   have h1:=sQ (rs:=rs) (N:=ws.length) (at_:=min (at_+n) (rs.length:Int)) (x:=x');have h2:(rs.length-at_.toNat)*62<=sr rs ws.length at_ x:=by unfold sr;rw[e];dsimp only;omega
   by_cases g:(min (at_+n) (rs.length:Int)).toNat<rs.length
   ·omega
   ·have:sr rs ws.length (min (at_+n) (rs.length:Int)) x'=0:=by unfold sr;rw[getElem?_eq_none nofun]
    omega
  cases ho:cf x cs ws r with
  |no d c=>rw[ho] at h;exact absurd h jO
  |nf b i=>rw[ho] at h;exact absurd h jO
  |on n x' cs'=>
   dsimp only;cases r with
   |sp s=>
    have ho:g5 (gc x cs ws s)=.on n x' cs':=ho;cases e2:gc x cs ws s with
    |on y ys=>rw[e2] at ho;cases ho;exact ⟨far (by decide),Ht o e2⟩
    |no d c=>rw[e2] at ho;cases ho
    |nf b i=>rw[e2] at ho;cases ho
   |hop m oo=>
    have ok:=hok _ (db e);have:1<=Hs m oo x.m:=by
     have h1:=ok.1.1;cases oo with
     |none=>show 1<=1+m;omega
     |some i=>show 1<=(if i=x.m then 1+m else 1);split<;>omega
    cases ho;exact ⟨far this,o⟩
   |lg w=>
    have ho:ofM (ck w x cs ws)=.on n x' cs':=ho;cases e2:ck w x cs ws with
    |no d c=>rw[e2] at ho;cases ho
    |on r2 y ys=>
     rw[e2] at ho;cases ho;obtain ⟨g1,g2,g3⟩:=Au e2;have ow:Af x':=by unfold Af;rw[g2];exact o
     rcases g1 with rfl|rfl
     ·obtain ⟨i0,i1,i2,i3⟩:=g3 rfl;refine ⟨?_,ow⟩;rw[show min (at_+0) (rs.length:Int)=at_ by omega];unfold sr;rw[e];show _+min 61 (if dir w x'=1 then (ws.length:Int)-idx w x' else idx w x'+1).toNat<_+min 61 (if dir w x=1 then (ws.length:Int)-idx w x else idx w x+1).toNat;rw[i3,i2];rcases Bt (w:=w) o with d|d
      ·rw[d,if_pos rfl,if_pos rfl];omega
      ·rw[d,if_neg (by decide),if_neg (by decide)];omega
     ·exact ⟨far (by decide),ow⟩
def Gu {r:Int}(h0:0<=r)(h1:r<3):∃ o:Option Int,j7 [wl,v4 0,v4 1] r=some (oV o)/\Lf o:=by
 rcases (by omega:r=0\/r=1\/r=2) with rfl|rfl|rfl
 ·exact ⟨none,rfl,True.intro⟩
 ·exact ⟨some 0,rfl,.inl rfl⟩
 ·exact ⟨some 1,rfl,.inr rfl⟩
abbrev vC (v:V):Prop:=∃ b:Bn,v=wf b.nm
def aa {A:aq}:∀ {L O Δ:List aq},af A O Δ->af A (L++O) (L++Δ)
 | [],_,_,h=>h
 |B::L,_,_,h=>.t (aa h)
def aR {α:Type}{f:α->aq}{x:α}:∀ {l:List α},x ∈ l->∃ Δ,∀ O,af (f x) (l.map f++O) (Δ++O)
 |y::l,h=>by
  rcases lw.mp h with rfl|h
  ·exact ⟨l.map f,λO=>.e⟩
  ·obtain ⟨Δ,hp⟩:=aR (f:=f) h;exact ⟨f y::Δ,λO=>.t (hp O)⟩
abbrev xx (j:Int):List V:=if j<0 then [wf "cell",v4 (-1-j)] else [wf "number",v4 j]
abbrev wz (v:V)(j:Int)(H:Hp):Prop:=∃ t,v=ut t/\H t=some (wp (xx j))
abbrev cV (vs:List V)(cs:List Int):aq:=⟨λH _=>vs.length=cs.length/\∀ (i:Nat) v j,vs[i]? =some v->cs[i]? =some j->wz v j H,λH H' D h _ g=>⟨h.1,λi v j e1 e2=>let ⟨t,e,ht⟩:=h.2 i v j e1 e2;⟨t,e,g.tup ht⟩⟩,λH D D' h _=>h⟩
def cV.of {cs:List Int}(s:Sep (cV vs cs::O) H):vs.length=cs.length/\∀ (i:Nat) v j,vs[i]? =some v->cs[i]? =some j->wz v j H:=let ⟨D,k,D1,D2,s1,s2,dj,h1,h2⟩:=s;h1
def cV.mk {cs:List Int}(h:vs.length=cs.length)(h2:∀ (i:Nat) v j,vs[i]? =some v->cs[i]? =some j->wz v j H) (s:Sep O H):Sep (cV vs cs::O) H:=s.free λ_=>⟨h,h2⟩
abbrev DX (v:V)(j:Int):aq:=⟨λH _=>wz v j H,λH H' D h _ g=>let ⟨t,e,ht⟩:=h;⟨t,e,g.tup ht⟩,λH D D' h _=>h⟩
def DX.of {j:Int}(s:Sep (DX v j::O) H):wz v j H:=let ⟨D,k,D1,D2,s1,s2,dj,h1,h2⟩:=s;h1
def DX.mk {j:Int}(h:wz v j H)(s:Sep O H):Sep (DX v j::O) H:=s.free λ_=>h
def cV.set {cs:List Int}{i:Nat}{j:Int}(s:Sep (cV vs cs::O) H)(h:wz v j H):Sep (cV (vs.set i v) (cs.set i j)::O) H:=by
 obtain ⟨h1,h2⟩:=cV.of s;refine cV.mk (by rw[length_set,length_set];exact h1) (λn w c e1 e2=>?_) s.drop;rw[List.getElem?_set] at e1 e2
 by_cases e:i=n
 ·rw[if_pos e] at e1 e2
  split at e1
  ·split at e2
   ·cases e1;cases e2;exact h
   ·cases e2
  ·cases e1
 ·rw[if_neg e] at e1 e2;exact h2 n w c e1 e2
def cV.snoc {cs:List Int}{j:Int}(s:Sep (cV vs cs::O) H)(h:wz v j H):Sep (cV (vs++[v]) (cs++[j])::O) H:=by
 obtain ⟨h1,h2⟩:=cV.of s;refine cV.mk (by rw[cr,cr,h1];rfl) (λn w c e1 e2=>?_) s.drop
 by_cases e:n<vs.length
 ·rw[getElem?_append_left e] at e1;rw[getElem?_append_left nofun] at e2;exact h2 n w c e1 e2
 ·rw[getElem?_append_right nofun] at e1;rw[getElem?_append_right nofun,<-h1] at e2;cases g:n-vs.length with
  |zero=>rw[g] at e1 e2;cases e1;cases e2;exact h
  |succ=>rw[g] at e1;cases e1
abbrev Hv (cs:List Int)(ws:List Str):Prop:=cs.length=ws.length/\1<=cs.length/\cs.length<=60/\ws=sw ws.length (Str.ofString "open")
abbrev cj (R:Rt)(a:Addr)(cs:List Int)(ws:List Str):aq:=bx λp:Addr×Addr×List V=>[pt a (wr (R.cad 24) p.1 [("sources",ut p.2.1)]),pt p.1 (.own a),pt p.2.1 (wn p.2.2),cV p.2.2 cs,pu (p.2.2.length=cs.length/\Hv cs ws)]
section
variable {a:Addr}{cs cs':List Int}{ws:List Str}{i:Int}
def qx (z:Sep (cj R a cs ws::O) H):∃ dx l vs,(vs.length=cs.length/\Hv cs ws)/\Sep (pt a (wr (R.cad 24) dx [("sources",ut l)])::pt dx (.own a)::pt l (wn vs)::cV vs cs::O) H:=by
 obtain ⟨⟨dx,l,vs⟩,z⟩:=fw z;have z:Sep (pt a (wr (R.cad 24) dx [("sources",ut l)])::pt dx (.own a)::pt l (wn vs)::cV vs cs::pu (vs.length=cs.length/\Hv cs ws)::O) H:=z;exact ⟨dx,l,vs,(z.drop.drop.drop.drop).pure,z.sub (by ac_nf)⟩
def ES {l:Addr}(h:vs.length=cs.length)(o:Hv cs ws)(z:Sep (pt a (wr (R.cad 24) dx [("sources",ut l)])::pt dx (.own a)::pt l (wn vs)::cV vs cs::O) H):Sep (cj R a cs ws::O) H:=by
 refine gf (dx,l,vs) ?_;have z2:Sep (pt a (wr (R.cad 24) dx [("sources",ut l)])::pt dx (.own a)::pt l (wn vs)::cV vs cs::pu (vs.length=cs.length/\Hv cs ws)::O) H:=Sep.push (.t .k3) (Sep.Az ⟨h,o⟩ z);exact z2
def n9 (z:Sep O H)(p:af (cj R a cs ws) O Δ):Hv cs ws:=by
 obtain ⟨_,_,_,h,_⟩:=qx (z.pull p);exact h.2
def bM:Ob R (cj R a cs ws) a 24 ["sources"]:=by
 rintro H D ⟨⟨dx,l,vs⟩,D1,D2,_,_,_,⟨_,h⟩,_⟩;exact ⟨dx,_,h,rfl⟩
def Ep {d:Str}(h:ws=sw ws.length (Str.ofString "open")):ai ws d i=(decide (0<=i)&&decide (i<ws.length)):=by
 unfold ai
 by_cases h0:0<=i
 ·by_cases h1:i<ws.length
  ·rw[decide_eq_true h0,decide_eq_true h1,Bool.true_and,Bool.true_and,h,getElem?_replicate,if_pos nofun];show (if Str.ofString "open"=Str.ofString "look" then d =="look" else Str.ofString "open" ==Str.ofString "open")=true;rw[if_neg (by decide+kernel)];simp
  ·rw[decide_eq_false h1];simp
 ·rw[decide_eq_false h0];simp
def rK {d:Str}(hk:1<=k)(z:Sep O H)(p:af (cj R a cs ws) O Δ)(q:Q (.bl (ai ws d i)) H):ab tab R k 73 [ut a,wf d,v4 i] H Q E:=by
 obtain ⟨dx,l,vs,⟨h1,h2,h3,h4,h5⟩,z1⟩:=qx (z.pull p);delta fJ;rw[Ep h5] at q;right;refine aA (λe=>?_) (λe=>?_)
 ·rw[decide_eq_true e,Bool.true_and] at q;right;rw[show (vs.length:Int)=ws.length by omega];exact q
 ·rw[decide_eq_false e] at q;right;exact q
def oa (hk:3<=k)(z:Sep O H)(p:af (cj R a cs ws) O Δ)(q0:ai ws "look" i=true->∀ v,wz v (gt cs i) H->Q v H)
  (q1:ai ws "look" i=false->∀ e H',Sep (lC (R.cad 2) [("deed",wf "look"),("cell",v4 i)] e false::O) H'->E e H'):ab tab R k 74 [ut a,v4 i] H Q E:=by
 obtain ⟨dx,l,vs,⟨h1,h2,h3,h4,h5⟩,z1⟩:=qx (z.pull p);delta d9;right;refine ah bM z p rfl rfl ?_;left;refine rK nofun z p ?_;right;refine iw (λhm=>?_) (λhm=>?_)
 ·have hin:=au hm;have e:vs[i.toNat]? =some (vs[i.toNat]'nofun):=li _;right;refine aJ (by grind) (aF hin.1 e) ?_;exact q0 hm _ ((cV.of (z1.pull .k3)).2 _ _ _ e (by unfold gt;rw[li nofun];rfl))
 ·right;intro x hx;refine eK nofun (z.new hx) (λd H hs=>?_);right;exact eP hs (by ac_rfl) rfl (λH hs=>q1 hm x H (iU hs))
def CB {d:Str}{G:Gx}(hk:1<=k)(z:Sep O H)(q:∀ e H',Sep (lC (R.cad 2) [("deed",wf d),("cell",v4 i)] e false::O) H'->E e H'):∀ e,H e=none->ab tab R k 1 [ut e,wf d,v4 i] (upd H e (.exc (R.cad 2) none [] true)) (λv H2=>v=wl/\∃ a i dx fs,ut e=ut a/\H2 a=some (.exc (R.cad i) dx fs true)/\tab.xc.contains i=true/\E a (upd H2 a (.exc (R.cad i) dx fs false))) E:=λe he=>by
 refine eK nofun (z.new he) (λd H3 hs3=>⟨rfl,?_⟩);exact eP (G:=⟨tab,R,ab tab R k,true⟩) hs3 .e rfl (λH4 hs4=>q e H4 (iU hs4))
abbrev L8 (v:V)(j:Int)(H:Hp):Prop:=wz v j H\/(v=v4 j/\0<=j)
def kj {j:Int}(hk:3<=k)(z:Sep O H)(r:aI (cj R a cs ws) (cj R a (cs.set i.toNat j) ws) O Γ')(hv:L8 v j H)(q0:ai ws "put" i=true->∀ H',Sep Γ' H'->Q wl H')
  (q1:ai ws "put" i=false->∀ e H',Sep (lC (R.cad 2) [("deed",wf "put"),("cell",v4 i)] e false::O) H'->E e H'):ab tab R k 75 [ut a,v4 i,v] H Q E:=by
 obtain ⟨Δ,p1,p2⟩:=r.bG;obtain ⟨dx,l,vs,⟨h1,h2,h3,h4,h5⟩,z1⟩:=qx (z.pull p1);delta fN;right;refine ah bM z p1 rfl rfl ?_;left;refine rK nofun z p1 ?_;right;refine iw (λhm=>?_) (λhm=>?_)
 ·have hin:=au hm;have fin:∀ {v:V}{H:Hp},wz v j H->Sep (pt a (wr (R.cad 24) dx [("sources",ut l)])::pt dx (.own a)::pt l (wn vs)::cV vs cs::Δ) H->rC ⟨tab,R,ab tab R (k-1),true⟩ "sources" (ut a) H (λov H2=>gH ov (v4 i) v H2 (λH4=>Q wl H4)):=λ{v H} ht zz=>by
   refine bY zz.at rfl rfl rfl ?_;refine dO (i:=i) (DX.mk ht zz) .k3 (eX hin.1 nofun) rfl (λH4 z4=>?_);refine q0 hm H4 (Sep.push p2 (ES (dx:=dx) (l:=l) (vs:=vs.set i.toNat v) (by rw[length_set,length_set];exact h1) ⟨by rw[length_set];omega,by rw[length_set];omega,by rw[length_set];omega,h5⟩ ?_));have e1:=DX.of z4;have z5:=cV.set (i:=i.toNat) (z4.pull (.t .k3)) e1;exact z5.sub (by ac_nf)
  rcases hv with ht|⟨rfl,hj⟩
  ·obtain ⟨t,rfl,ht2⟩:=ht;left;refine d4 (BD ht2) (b:=true) rfl ?_;left;refine aN rfl ?_;exact fin ⟨t,rfl,ht2⟩ z1
  ·left;refine d4 (t:="int") rfl (b:=false) rfl ?_;left;refine aw rfl ?_;left;refine aY z1 (ol rfl) (λT H2 z2=>?_);exact fin ⟨T,rfl,by rw[xx,if_neg nofun];exact z2.at⟩ z2.drop
 ·right;exact CB (G:=⟨tab,R,ab tab R (k-1),true⟩) nofun z (q1 hm)
end
section
variable {b a:Addr}{h t l w s m i j by':Int}{cs:List Int}{ws:List Str}
def tI (hk:4<=k)(z:Sep O H)(r:aI (cj R a cs ws) (cj R a (cs.set j.toNat (gt cs i)) ws) O Γ')(q0:ai ws "look" i=true->ai ws "put" j=true->∀ H',Sep Γ' H'->Q wl H')
  (q1:ai ws "look" i=false->∀ e H',Sep (lC (R.cad 2) [("deed",wf "look"),("cell",v4 i)] e false::O) H'->E e H')
  (q2:ai ws "look" i=true->ai ws "put" j=false->∀ e H',Sep (lC (R.cad 2) [("deed",wf "put"),("cell",v4 j)] e false::O) H'->E e H'):ab tab R k 39 [ut a,v4 i,v4 j] H Q E:=by
 obtain ⟨Δ,p1,p2⟩:=r.bG;delta AO;right;refine ah bM z p1 rfl rfl ?_;left;refine oa nofun z p1 (λhm v tv=>?_) q1;right;refine ah bM z p1 rfl rfl ?_;left;refine kj (j:=gt cs i) nofun z r (.inl tv) (λhp H1 z1=>?_) (q2 hm);right;exact q0 hm hp H1 z1
def mP (hk:3<=k)(z:Sep O H)(p:af (cj R a cs ws) O Δ)(q0:ai ws "put" i=true->Q wl H)
  (q1:ai ws "put" i=false->∀ e H',Sep (lC (R.cad 2) [("deed",wf "put"),("cell",v4 i)] e false::O) H'->E e H'):ab tab R k 38 [ut a,v4 i] H Q E:=by
 delta mK;right;refine ah bM z p rfl rfl ?_;left;refine rK nofun z p ?_;right;refine iw (λhm=>?_) (λhm=>?_)
 ·right;exact q0 hm
 ·right;intro x hx;refine eK nofun (z.new hx) (λd H hs=>?_);right;exact eP hs (by ac_rfl) rfl (λH hs=>q1 hm x H (iU hs))
def se {Γf:Int->Int->List aq}(hk:4<=k)(z:Sep O H)(r:∀ v w:Int,∃ Γ1,aI (cj R a cs ws) (cj R a (cs.set i.toNat v) ws) O Γ1/\aI (cj R a (cs.set i.toNat v) ws) (cj R a ((cs.set i.toNat v).set j.toNat w) ws) Γ1 (Γf v w)) (q0:ai ws "look" i=true->ai ws "look" j=true->ai ws "put" i=true->ai ws "put" j=true->∀ H',Sep (Γf (gt cs j) (gt cs i)) H'->Q wl H')
  (q1:ai ws "look" i=false->∀ e H',Sep (lC (R.cad 2) [("deed",wf "look"),("cell",v4 i)] e false::O) H'->E e H')
  (q2:ai ws "look" i=true->ai ws "look" j=false->∀ e H',Sep (lC (R.cad 2) [("deed",wf "look"),("cell",v4 j)] e false::O) H'->E e H')
  (q3:ai ws "look" i=true->ai ws "look" j=true->ai ws "put" i=false->∀ e H',Sep (lC (R.cad 2) [("deed",wf "put"),("cell",v4 i)] e false::O) H'->E e H')
  (q4:ai ws "look" i=true->ai ws "look" j=true->ai ws "put" i=true->ai ws "put" j=false->∀ e H',Sep (lC (R.cad 2) [("deed",wf "put"),("cell",v4 j)] e false::O) H'->E e H'):ab tab R k 40 [ut a,v4 i,v4 j] H Q E:=by
 obtain ⟨Γ1,r1,r2⟩:=r (gt cs j) (gt cs i);obtain ⟨Δ,p1,p2⟩:=r1.bG;obtain ⟨Δ2,p3,p4⟩:=r2.bG;delta j4;right;refine ah bM z p1 rfl rfl ?_;left;refine oa nofun z p1 (λh1 v1 tv1=>?_) q1;right;refine ah bM z p1 rfl rfl ?_;left;refine oa nofun z p1 (λh2 v2 tv2=>?_) (q2 h1);right;refine mP nofun z p1 (λh3=>?_) (q3 h1 h2);right;refine mP nofun z p1 (λh4=>?_) (q4 h1 h2 h3);right;refine ah bM z p1 rfl rfl ?_;left;refine kj (j:=gt cs j) nofun (DX.mk tv1 z) (.t r1) (.inl tv2) (λhp H1 z1=>?_) (λhp=>absurd (h3.symm.trans hp) (by decide));have tv3:=DX.of z1;have z1:=z1.drop;right;refine ah bM z1 p3 rfl rfl ?_;left;refine kj (j:=gt cs i) nofun z1 r2 (.inl tv3) (λhp H2 z2=>?_) (λhp=>absurd (h4.symm.trans hp) (by decide));right;exact q0 h1 h2 h3 h4 H2 z2
abbrev rG (R:Rt)(b a:Addr)(x:Bx)(cs:List Int)(ws:List Str)(O:List aq)(Q:VK)(E:XK):Out->Prop
 | .on r x' cs'=>∀ H',Sep (aH R b x'::cj R a cs' ws::O) H'->Q (v4 r) H'
 | .no d c=>∀ e H',Sep (lC (R.cad 2) [("deed",wf d),("cell",v4 c)] e false::aH R b x::cj R a cs ws::O) H'->E e H'
def zb (ro:Ro K R)(hk:7<=k)(z:Sep (aH R b x::cj R a cs ws::O) H)(q:rG R b a x cs ws O Q E (cS x cs ws)):ab tab R k 49 [v,ut b,ut a] H Q E:=by
 have ok:=lS z .e;have sk:=n9 z .k1;obtain ⟨h,t,l,w,s,m⟩:=x;obtain ⟨⟨o1,o2⟩,⟨o3,o4⟩,⟨o5,o6⟩,o7⟩:=ok;dsimp only at o1 o2 o3 o4 o5 o6;obtain ⟨s1,s2,s3,s4⟩:=sk;delta gI;walk_at "ws";refine az (λe=>?_) (λe=>?_)
 ·walk_at "ws";rw[cS,if_pos e] at q;exact q H z
 rw[cS,if_neg e] at q;walk_at "ws";refine aA (λe2=>?_) (λe2=>?_)
 ·rw[if_pos e2] at q;walk_at "ws";refine tI nofun z .k1 (λh1 h2 H1 z1=>?_) (λh1=>?_) (λh1 h2=>?_)
  ·have g1:=au h1;have g2:=au h2;rw[hm,if_pos h1,if_pos h2] at q;walk_at "ws";refine FD ro nofun z1 .e nofun (λH2 z2=>?_);walk_at "ws";refine HS ro nofun z2 .e nofun (λH3 z3=>?_);walk_at "ws";exact wb ro nofun z3 .e nofun (λH4 z4=>q H4 z4)
  ·rw[hm,if_neg (by rw[h1];decide)] at q;exact q
  ·rw[hm,if_pos h1,if_neg (by rw[h2];decide)] at q;exact q
 ·rw[if_neg e2] at q;walk_at "ws";refine tI nofun z .k1 (λh1 h2 H1 z1=>?_) (λh1=>?_) (λh1 h2=>?_)
  ·rw[hm,if_pos h1,if_pos h2] at q;walk_at "ws";exact wb ro nofun z1 .e nofun (λH4 z4=>q H4 z4)
  ·rw[hm,if_neg (by rw[h1];decide)] at q;exact q
  ·rw[hm,if_pos h1,if_neg (by rw[h2];decide)] at q;exact q
def A9 (ro:Ro K R)(hk:7<=k)(z:Sep (aH R b x::cj R a cs ws::O) H)(q:rG R b a x cs ws O Q E (fV x cs ws)):ab tab R k 51 [v,ut b,ut a] H Q E:=by
 have ok:=lS z .e;have sk:=n9 z .k1;obtain ⟨h,t,l,w,s,m⟩:=x;obtain ⟨⟨o1,o2⟩,⟨o3,o4⟩,⟨o5,o6⟩,o7⟩:=ok;dsimp only at o1 o2 o3 o4 o5 o6;obtain ⟨s1,s2,s3,s4⟩:=sk;delta jb;walk_at "ws";refine az (λe=>?_) (λe=>?_)
 ·walk_at "ws";rw[fV,if_pos e] at q;exact q H z
 rw[fV,if_neg e] at q;walk_at "ws";refine az (λe2=>?_) (λe2=>?_)
 ·rw[if_pos e2] at q;walk_at "ws";refine wb ro nofun z .e nofun (λH4 z4=>?_);subst e2;exact q H4 z4
 ·rw[if_neg e2] at q;walk_at "ws";refine se (Γf:=λv w'=>aH R b ⟨h,t,l,w,s,m⟩::cj R a ((cs.set h.toNat v).set (h+l-1).toNat w') ws::O) nofun z (λv w=>⟨_,.t .e,.t .e⟩) (λh1 h2 h3 h4 H1 z1=>?_) (λh1=>?_) (λh1 h2=>?_) (λh1 h2 h3=>?_) (λh1 h2 h3 h4=>?_)
  ·have g1:=au h1;rw[xm,if_pos h1,if_pos h2,if_pos h3,if_pos h4] at q;walk_at "ws";refine FD ro nofun z1 .e nofun (λH2 z2=>?_);walk_at "ws";exact wb ro nofun z2 .e nofun (λH4 z4=>q H4 z4)
  ·rw[xm,if_neg (by rw[h1];decide)] at q;exact q
  ·rw[xm,if_pos h1,if_neg (by rw[h2];decide)] at q;exact q
  ·rw[xm,if_pos h1,if_pos h2,if_neg (by rw[h3];decide)] at q;exact q
  ·rw[xm,if_pos h1,if_pos h2,if_pos h3,if_neg (by rw[h4];decide)] at q;exact q
def CM (ro:Ro K R)(hk:8<=k)(z:Sep (aH R b x::cj R a cs ws::O) H)(q:rG R b a x cs ws O Q E (fW x cs ws)):ab tab R k 41 [v,ut b,ut a] H Q E:=by
 have ok:=lS z .e;have sk:=n9 z .k1;obtain ⟨h,t,l,w,s,m⟩:=x;obtain ⟨⟨o1,o2⟩,⟨o3,o4⟩,⟨o5,o6⟩,o7,o8⟩:=ok;dsimp only at o1 o2 o3 o4 o5 o6 o7;obtain ⟨s1,s2,s3,s4⟩:=sk;delta iV;walk_at "ws";refine az (λe=>?_) (λe=>?_)
 ·walk_at "ws";rw[fW,if_pos e] at q;exact q H z
 rw[fW,if_neg e] at q;walk_at "ws";refine tI nofun z .k1 (λh1 h2 H1 z1=>?_) (λh1=>?_) (λh1 h2=>?_)
 ·have g1:=au h1;have g2:=au h2;rw[hm,if_pos h1,if_pos h2] at q;walk_at "ws";refine KS ro nofun z1 .e nofun (λH2 z2=>?_);walk_at "ws";refine JB ro nofun z2 .e nofun (λH3 z3=>?_);walk_at "ws";exact wb ro nofun z3 .e nofun (λH4 z4=>q H4 z4)
 ·rw[hm,if_neg (nt h1)] at q;exact q
 ·rw[hm,if_pos h1,if_neg (nt h2)] at q;exact q
def Di (ro:Ro K R)(hk:8<=k)(z:Sep (aH R b x::cj R a cs ws::O) H)(q:rG R b a x cs ws O Q E (fL x cs ws)):ab tab R k 43 [v,ut b,ut a] H Q E:=by
 have ok:=lS z .e;have sk:=n9 z .k1;obtain ⟨h,t,l,w,s,m⟩:=x;obtain ⟨⟨o1,o2⟩,⟨o3,o4⟩,⟨o5,o6⟩,o7,o8,o9⟩:=ok;dsimp only at o1 o2 o3 o4 o5 o6 o7 o8;obtain ⟨s1,s2,s3,s4⟩:=sk;delta jk;walk_at "ws";refine az (λe=>?_) (λe=>?_)
 ·walk_at "ws";rw[fL,if_pos e] at q;exact q H z
 rw[fL,if_neg e] at q;walk_at "ws";refine ah bM z .k1 rfl rfl ?_;walk_at "ws";refine kj (j:=s) nofun z .k1 (.inr ⟨rfl,by have:=o8.1;omega⟩) (λh2 H1 z1=>?_) (λh2=>?_)
 ·have g2:=au h2;rw[if_pos h2] at q;walk_at "ws";refine JB ro nofun z1 .e nofun (λH3 z3=>?_);walk_at "ws";exact wb ro nofun z3 .e nofun (λH4 z4=>q H4 z4)
 ·rw[if_neg (nt h2)] at q;exact q
end
abbrev dF (R:Rt)(b a:Addr)(x:Bx)(cs:List Int)(ws:List Str)(O:List aq)(Q:VK)(E:XK):sM->Prop
 | .on x' cs'=>∀ H',Sep (aH R b x'::cj R a cs' ws::O) H'->Q (v4 1) H'
 | .no d c=>∀ e H',Sep (lC (R.cad 2) [("deed",wf d),("cell",v4 c)] e false::aH R b x::cj R a cs ws::O) H'->E e H'
 | .nf n i=>∀ e H',Sep (lC (R.cad 3) [("box",wf n.nm),("number",v4 i)] e false::aH R b x::cj R a cs ws::O) H'->E e H'
def oy {b:Addr}{cs:List Int}{n:Bn}(ro:Ro K R)(hk:4<=k)(z:Sep (aH R b x::cj R a cs ws::O) H)(q:dF R b a x cs ws O (λ_=>Q wl) E (ba x cs n i)):ab tab R k 15 [ut b,wf n.nm,v4 i] H Q E:=by
 unfold ba at q;refine LH ro hk z (λh H' z'=>?_) (λh e H' z'=>?_)
 ·rw[if_pos h] at q;exact q H' z'
 ·rw[if_neg (by rw[h];exact Bool.false_ne_true)] at q;exact q e H' z'
def dF.imp {b:Addr}{cs:List Int}{Q':VK}(h:∀ H',Q (v4 1) H'->Q' (v4 1) H'):∀ {o:sM},dF R b a x cs ws O Q E o->dF R b a x cs ws O Q' E o
 | .on _ _,q=>λH' z=>h _ (q H' z)
 | .no _ _,q=>q
 | .nf _ _,q=>q
def zm (sp:Sp)(hb:∀ n,sp≠.read n) (ro:Ro K R):∃ f,tab.me.lookup (sp.cl,("step":Str))=some f/\(∀ Ψ,dflt ⟨tab,R,Ψ,true⟩ f 3=[])/\∀ {k:Nat}{de b a:Addr}{x:Bx}{cs:List Int}{ws:List Str}{O:List aq}{H:Hp}{Q:VK}{E:XK},5<=k->Sep (aH R b x::cj R a cs ws::sd R de sp::O) H->dF R b a x cs ws (sd R de sp::O) Q E (gc x cs ws sp)->ab tab R k f [ut de,ut b,ut a] H Q E:=by
 cases sp with
 |set n i=>
  refine ⟨21,rfl,λ_=>rfl,λ{k de b a x cs ws O H Q E} hk z q=>wc (d:=kB) nofun rfl rfl ?_⟩;obtain ⟨dx,e⟩:=uH z (by symm);right;refine ah bq z (by symm) rfl rfl ?_;left;refine bY e rfl rfl rfl ?_;left;refine bY e rfl rfl rfl ?_;left;refine bI (vs':=[_,_,_]) rfl ?_;exact oy ro nofun z (dF.imp (Q:=Q) (λH' h=>h) q)
 |add n i=>
  refine ⟨24,rfl,λ_=>rfl,λ{k de b a x cs ws O H Q E} hk z q=>wc (d:=kI) nofun rfl rfl ?_⟩;obtain ⟨dx,e⟩:=uH z (by symm);right;refine ah bq z (by symm) rfl rfl ?_;left;refine bY e rfl rfl rfl ?_;right;refine ah bq z (by symm) rfl rfl ?_;left;refine bY e rfl rfl rfl ?_;left;refine bI (vs':=[_,_]) rfl ?_;refine Cf (n:=n) ro nofun z (by symm) ?_;left;refine bY e rfl rfl rfl ?_;right;refine bI (vs':=[_,_,_]) rfl ?_;exact oy ro nofun z (dF.imp (Q:=Q) (λH' h=>h) q)
 |take n m=>
  refine ⟨27,rfl,λ_=>rfl,λ{k de b a x cs ws O H Q E} hk z q=>wc (d:=i9) nofun rfl rfl ?_⟩;obtain ⟨dx,e⟩:=uH z (by symm);right;refine ah bq z (by symm) rfl rfl ?_;left;refine bY e rfl rfl rfl ?_;right;refine ah bq z (by symm) rfl rfl ?_;left;refine bY e rfl rfl rfl ?_;left;refine bI (vs':=[_,_]) rfl ?_;refine Cf (n:=m) ro nofun z (by symm) ?_;left;refine bI (vs':=[_,_,_]) rfl ?_;exact oy ro nofun z (dF.imp (Q:=Q) (λH' h=>h) q)
 |read n=>exact absurd rfl (hb n)
 |write n=>
  refine ⟨33,rfl,λ_=>rfl,λ{k de b a x cs ws O H Q E} hk z q=>wc (d:=gT) nofun rfl rfl ?_⟩;obtain ⟨dx,e⟩:=uH z (by symm);have q:dF R b a x cs ws (sd R de (.write n)::O) Q E (if dD (v4 (x.g n))=true then (if ai ws "put" x.t=true then .on x (cs.set x.t.toNat (x.g n)) else .no "put" x.t) else .nf n (x.g n)):=q;right;refine ah bq z (by symm) rfl rfl ?_;left;refine bY e rfl rfl rfl ?_;left;refine bI (vs':=[_,_]) rfl ?_;refine Cf (n:=n) ro nofun z (by symm) ?_;right;refine cA (t:="int") ro nofun rfl ?_;cases hc:dD (v4 (x.g n)) with
  |false=>
   rw[if_neg (by rw[hc];exact Bool.false_ne_true)] at q;right;refine bY e rfl rfl rfl ?_;right;intro ex he;refine hV nofun (z.new he) (λd H3 hs3=>⟨rfl,?_⟩);exact eP (G:=⟨tab,R,ab tab R (k-1),true⟩) hs3 .e rfl (λH4 hs4=>q ex H4 (iU hs4))
  |true=>
   rw[if_pos hc] at q;right;refine ah bM z (by symm) rfl rfl ?_;right;refine ah bq z (by symm) rfl rfl ?_;left;refine bI (vs':=[_,_]) rfl ?_;refine Cf (n:=.t) ro nofun z (by symm) ?_;left;refine bI (vs':=[_,_,_]) rfl ?_;have hc2:0<=x.g n/\x.g n<=1000000000:=by
    have hc3:(decide (0<=x.g n)&&decide (x.g n<=1000000000))=true:=hc;simpa using hc3
   refine kj (i:=x.t) (j:=x.g n) nofun z (by ac_rfl) (.inr ⟨rfl,hc2.1⟩) (λh H' z'=>?_) (λh e H' z'=>?_)
   ·rw[if_pos h] at q;exact q H' z'
   ·rw[if_neg (by rw[h];exact Bool.false_ne_true)] at q;exact q e H' z'
abbrev aC:Rw->Prop
 | .lg .seek=>False
 | .lg .mtch=>False
 | .sp (.read _)=>False
 |_=>True
def xt (wd:Wd)(hb:aC (.lg wd))(ro:Ro K R):∃ f,tab.me.lookup (wd.cl,("step":Str))=some f/\(∀ Ψ,dflt ⟨tab,R,Ψ,true⟩ f 3=[])/\∀ {k:Nat}{v:V}{b a:Addr}{x:Bx}{cs:List Int}{ws:List Str}{O:List aq}{H:Hp}{Q:VK}{E:XK},8<=k->Sep (aH R b x::cj R a cs ws::O) H->rG R b a x cs ws O Q E (ck wd x cs ws)->ab tab R k f [v,ut b,ut a] H Q E:=by
 cases wd
 ·exact ⟨41,rfl,λ_=>rfl,λhk z q=>CM ro hk z q⟩
 ·exact ⟨43,rfl,λ_=>rfl,λhk z q=>Di ro hk z q⟩
 ·exact hb.elim
 ·exact hb.elim
 ·exact ⟨49,rfl,λ_=>rfl,λhk z q=>zb ro nofun z q⟩
 ·exact ⟨51,rfl,λ_=>rfl,λhk z q=>A9 ro nofun z q⟩
abbrev sX (R:Rt)(b a:Addr)(x:Bx)(cs:List Int)(ws:List Str)(O:List aq)(Q:VK)(E:XK):dX->Prop
 | .on r x' cs'=>∀ H',Sep (aH R b x'::cj R a cs' ws::O) H'->Q (v4 r) H'
 | .no d c=>∀ e H',Sep (lC (R.cad 2) [("deed",wf d),("cell",v4 c)] e false::aH R b x::cj R a cs ws::O) H'->E e H'
 | .nf n i=>∀ e H',Sep (lC (R.cad 3) [("box",wf n.nm),("number",v4 i)] e false::aH R b x::cj R a cs ws::O) H'->E e H'
def AQ (r:Rw)(hb:aC r)(ro:Ro K R):∃ f,tab.me.lookup (r.cl,("step":Str))=some f/\(∀ Ψ,dflt ⟨tab,R,Ψ,true⟩ f 3=[])/\∀ {k:Nat}{de b a:Addr}{x:Bx}{cs:List Int}{ws:List Str}{O:List aq}{H:Hp}{Q:VK}{E:XK},8<=k->Sep (aH R b x::cj R a cs ws::lj R de r::O) H->sX R b a x cs ws (lj R de r::O) Q E (cf x cs ws r)->ab tab R k f [ut de,ut b,ut a] H Q E:=by
 cases r with
 |lg w=>
  obtain ⟨f,hf,hd,hs⟩:=xt w hb ro;refine ⟨f,hf,hd,λ{k de b a x cs ws O H Q E} hk z q=>hs hk z ?_⟩;have q:sX R b a x cs ws (lj R de (.lg w)::O) Q E (ofM (ck w x cs ws)):=q
  revert q
  cases ck w x cs ws<;>exact λq=>q
 |sp s=>
  obtain ⟨f,hf,hd,hs⟩:=zm s (λn e=>by subst e;exact hb) ro;refine ⟨f,hf,hd,λ{k de b a x cs ws O H Q E} hk z q=>hs nofun z ?_⟩;have q:sX R b a x cs ws (lj R de (.sp s)::O) Q E (g5 (gc x cs ws s)):=q
  revert q
  cases gc x cs ws s<;>exact λq=>q
 |hop n o=>
  refine ⟨89,rfl,λ_=>rfl,λ{k de b a x cs ws O H Q E} hk z q=>?_⟩;exact Dt ro nofun z .k2 .e (q H z)
def CA {de b:Addr}{cs:List Int}(r:Rw)(hb:aC r)(ro:Ro K R)(hk:9<=k)(z:Sep (aH R b x::cj R a cs ws::lj R de r::O) H)
  (q:∀ t H',Sep (ML t (cf x cs ws r)::aH R b ((cf x cs ws r).bx x)::cj R a ((cf x cs ws r).cs cs) ws::lj R de r::O) H'->Q (ut t) H'):ab tab R k 55 [ut de,ut b,ut a] H Q E:=by
 obtain ⟨f,hf,hd,hst⟩:=AQ r hb ro;delta tX;right;refine ah (Ef r) z .k2 (by cases r with|lg w=>rfl|sp s=>cases s<;>rfl|hop n o=>rfl) hf ?_;left;refine bI (vs':=[ut de,ut b,ut a]) (by show _::(_++dflt _ _ 3)=_;rw[hd];rfl) ?_;refine hst nofun z ?_
 revert q
 cases cf x cs ws r with
 |on n x' cs'=>
  intro q H1 z1;right;rename_i t H3 z3;exact q t H3 z3.toT
 |no d c=>
  intro q e H1 z1;obtain ⟨dx,z2⟩:=EE z1;refine ⟨2,_,_,true,z2.at,rfl,rfl,?_⟩;left;refine aN rfl ?_;right;rename_i te H3 z3 t H4 z4;have z5:=(z4.toT.pull .k1).toT;exact q t H4 (gf te (z5.sub (.cons .k1 (.cons .e (.drop (.drop .refl))))))
 |nf n i=>
  intro q e H1 z1;obtain ⟨dx,z2⟩:=EE z1;refine ⟨3,_,_,false,z2.at,rfl,rfl,?_⟩;left;refine aw rfl ?_;left;refine ⟨3,_,_,true,z2.at,rfl,rfl,?_⟩;left;refine aN rfl ?_;right;rename_i te H3 z3 t H4 z4;have z5:=(z4.toT.pull .k1).toT;exact q t H4 (gf te (z5.sub (.cons .k1 (.cons .e (.drop (.drop .refl))))))
section
variable {m l s b a:Addr}{at_:Int}{ds:List V}{rs:List Rw}{x:Bx}{cs:List Int}{ws:List Str}
def vF (ro:Ro K R)(hk:10<=k)(hb:∀ r ∈ rs,aC r) (h0:0<=at_) (h1:at_<=ds.length) (hd:cb R O ds rs) (z:Sep (xj R m l s b at_ ds::cj R a cs ws::aH R b x::O) H)
  (q:∀ H',Sep (xj R m l s b (mS rs at_ x cs ws).at_ ds::cj R a (mS rs at_ x cs ws).cs ws::aH R b (mS rs at_ x cs ws).x::O) H'->Q (wf (mS rs at_ x cs ws).w) H'):ab tab R k 58 [ut m,ut a] H Q E:=by
 delta cO;unfold mS at q;right;refine ah Ek z .e rfl rfl ?_;left;refine BJ nofun z .e ?_
 by_cases he:at_=ds.length
 ·rw[decide_eq_true he];right;rw[getElem?_eq_none (by have:=hd.1;omega)] at q;exact q H z
 ·rw[decide_eq_false he];have hlt:at_.toNat<rs.length:=by have:=hd.1;omega
  have er:rs[at_.toNat]? =some rs[at_.toNat]:=li hlt;generalize rs[at_.toNat]=r at er;obtain ⟨de,Δ,e2,p⟩:=hd.2 _ _ er;rw[er] at q;dsimp only at q;obtain ⟨dx,z1⟩:=Gi z;right;refine aJ (i:=at_) (by grind) (aF h0 e2) ?_;right;have z2:Sep (aH R b x::cj R a cs ws::lj R de r::pt m (wr (R.cad 22) dx [("deeds",ut l),("store",ut s),("boxes",ut b),("at",v4 at_)])::pt dx (.own m)::pt l (wn ds)::Δ) H:=z1.sub (.cons (.t .k3) (.cons .k3 (.cons (.j2 (.t p)) .refl)));refine CA r (hb r (db er)) ro nofun z2 (λt H2 z3=>?_);clear z z1 z2
  revert q z3
  cases cf x cs ws r with
  |on n x' cs'=>
   intro q z3;have z3:Sep (tu t [v4 n,wl]::aH R b x'::cj R a cs' ws::lj R de r::pt m (wr (R.cad 22) dx [("deeds",ut l),("store",ut s),("boxes",ut b),("at",v4 at_)])::pt dx (.own m)::pt l (wn ds)::Δ) H2:=z3;right;refine iz ?_;left;refine aw rfl ?_;right;rename_i H4 z4;rw[hd.1] at z4;refine q H4 (DJ (dx:=dx) ?_);exact (z4.sub (Γ':=lj R de r::pt m _::pt dx (.own m)::pt l (wn ds)::cj R a cs' ws::aH R b x'::Δ) (by ac_nf)).push (.j2 (.j2 (.t p)))
  |no d c=>
   intro q z3;obtain ⟨te,z4⟩:=fw z3;have z4:Sep (tu t [wl,ut te]::tu te [wf d,v4 c]::aH R b x::cj R a cs ws::lj R de r::pt m (wr (R.cad 22) dx [("deeds",ut l),("store",ut s),("boxes",ut b),("at",v4 at_)])::pt dx (.own m)::pt l (wn ds)::Δ) H2:=z4;right;refine iz ?_;left;refine aN rfl ?_;refine q H2 (DJ (dx:=dx) ?_);exact (z4.sub (Γ':=lj R de r::pt m _::pt dx (.own m)::pt l (wn ds)::cj R a cs ws::aH R b x::Δ) (by ac_nf)).push (.j2 (.j2 (.t p)))
  |nf n i=>
   intro q z3;obtain ⟨te,z4⟩:=fw z3;have z4:Sep (tu t [wl,ut te]::tu te [wf "fit",wf n.nm]::aH R b x::cj R a cs ws::lj R de r::pt m (wr (R.cad 22) dx [("deeds",ut l),("store",ut s),("boxes",ut b),("at",v4 at_)])::pt dx (.own m)::pt l (wn ds)::Δ) H2:=z4;right;refine iz ?_;left;refine aN rfl ?_;refine q H2 (DJ (dx:=dx) ?_);exact (z4.sub (Γ':=lj R de r::pt m _::pt dx (.own m)::pt l (wn ds)::cj R a cs ws::aH R b x::Δ) (by ac_nf)).push (.j2 (.j2 (.t p)))
end
def gF {cs:List Int}{b:Bn}(hx:0<=x.l)(h:ba x cs b i=.on x' cs'):0<=x'.l/\cs'.length=cs.length:=by
 unfold ba at h
 by_cases e:a9 b i=true
 ·rw[if_pos e] at h;cases h;refine ⟨?_,rfl⟩;cases b
  ·exact hx
  ·exact hx
  ·have e:(decide (0<=i)&&decide (i<=1000000000))=true:=e;have e:0<=i/\i<=1000000000:=by simpa using e
   exact e.1
  ·exact hx
  ·exact hx
  ·exact hx
 ·rw[if_neg e] at h;cases h
def xo {cs:List Int}{s:Sp}(hx:0<=x.l)(h:gc x cs ws s=.on x' cs'):0<=x'.l/\cs'.length=cs.length:=by
 cases s with
 |set b i=>exact gF hx h
 |add b i=>exact gF hx h
 |take b c=>exact gF hx h
 |read b=>
  have h:(if ai ws "look" x.h=true then ba x cs b (gt cs x.h) else .no "look" x.h)=.on x' cs':=h
  by_cases e:ai ws "look" x.h=true
  ·rw[if_pos e] at h;exact gF hx h
  ·rw[if_neg e] at h;cases h
 |write b=>
  have h:(if dD (v4 (x.g b))=true then (if ai ws "put" x.t=true then .on x (cs.set x.t.toNat (x.g b)) else .no "put" x.t) else .nf b (x.g b))=sM.on x' cs':=h
  by_cases e:dD (v4 (x.g b))=true
  ·rw[if_pos e] at h
   by_cases e2:ai ws "put" x.t=true
   ·rw[if_pos e2] at h;cases h;exact ⟨hx,length_set ..⟩
   ·rw[if_neg e2] at h;cases h
  ·rw[if_neg e] at h;cases h
def my {cs:List Int}{n:Int}(hx:0<=x.l)(h:cf x cs ws r=.on n x' cs'):0<=x'.l/\cs'.length=cs.length:=by
 cases r with
 |lg w=>
  have h:ofM (ck w x cs ws)=.on n x' cs':=h;cases e:ck w x cs ws with
  |no d c=>rw[e] at h;cases h
  |on r y ys=>
   rw[e] at h;cases h;exact yD hx e
 |hop m o=>cases h;exact ⟨hx,rfl⟩
 |sp s=>
  have h:g5 (gc x cs ws s)=.on n x' cs':=h;cases e:gc x cs ws s with
  |on y ys=>rw[e] at h;cases h;exact xo hx e
  |no d c=>rw[e] at h;cases h
  |nf b i=>rw[e] at h;cases h
def vq {cs:List Int}(hx:0<=x.l):0<=(mS rs at_ x cs ws).x.l/\(mS rs at_ x cs ws).cs.length=cs.length:=by
 unfold mS;cases e:rs[at_.toNat]? with
 |none=>exact ⟨hx,rfl⟩
 |some r=>
  dsimp only;cases ho:cf x cs ws r with
  |no d c=>exact ⟨hx,rfl⟩
  |nf b i=>exact ⟨hx,rfl⟩
  |on n x' cs'=>exact my hx ho
abbrev dX.mp (f:Int->Int):dX->dX
 | .on n x cs=>.on n x (cs.map f)
 | .no d c=>.no d c
 | .nf b i=>.nf b i
section
variable {f:Int->Int}{x x':Bx}{cs cs':List Int}{ws:List Str}{r:Rw}{n i j:Int}{rs:List Rw}{at_:Int}
def su (h0:0<=i)(h1:i<cs.length):gt (cs.map f) i=f (gt cs i):=by
 unfold gt;rw[io,li nofun]
 rfl
def xK {g:List Int->Out}(hl:cs.length=ws.length)(hg:∀ l,ofM (g (l.map f))=(ofM (g l)).mp f):ofM (hm (cs.map f) ws i j g)=(ofM (hm cs ws i j g)).mp f:=by
 unfold hm
 by_cases m1:ai ws "look" i=true
 ·rw[if_pos m1,if_pos m1]
  by_cases m2:ai ws "put" j=true
  ·have:=au m1;rw[if_pos m2,if_pos m2,su this.1 nofun,<-List.map_set];exact hg _
  ·rw[if_neg m2,if_neg m2];rfl
 ·rw[if_neg m1,if_neg m1];rfl
def yl (hf:∀ j,0<=j->f j=j) (hb:aC r) (hx:x.ok) (hl:cs.length=ws.length):cf x (cs.map f) ws r=(cf x cs ws r).mp f:=by
 obtain ⟨o1,o2,o3,o4,o5,o6⟩:=hx;cases r with
 |hop m o=>rfl
 |sp s=>
  have gv:∀ b i,g5 (ba x (cs.map f) b i)=(g5 (ba x cs b i)).mp f:=λb i=>by
   unfold ba
   split<;>rfl
  cases s with
  |set b i=>exact gv _ _
  |add b i=>exact gv _ _
  |take b c=>exact gv _ _
  |read b=>exact hb.elim
  |write b=>
   show g5 (if dD (v4 (x.g b))=true then (if ai ws "put" x.t=true then .on x ((cs.map f).set x.t.toNat (x.g b)) else .no "put" x.t) else .nf b (x.g b))=(g5 (if dD (v4 (x.g b))=true then (if ai ws "put" x.t=true then .on x (cs.set x.t.toNat (x.g b)) else .no "put" x.t) else .nf b (x.g b))).mp f
   by_cases hc:dD (v4 (x.g b))=true
   ·have hc3:(decide (0<=x.g b)&&decide (x.g b<=1000000000))=true:=hc;have hc2:0<=x.g b/\x.g b<=1000000000:=by simpa using hc3
    rw[if_pos hc,if_pos hc]
    split
    ·show dX.on 1 x _=dX.on 1 x _;rw[List.map_set,hf _ hc2.1]
    ·rfl
   ·rw[if_neg hc,if_neg hc];rfl
 |lg w=>
  cases w with
  |seek=>exact hb.elim
  |mtch=>exact hb.elim
  |copy=>
   show ofM (fW x (cs.map f) ws)=(ofM (fW x cs ws)).mp f;unfold fW
   split
   ·rfl
   ·exact xK hl λl=>rfl
  |fill=>
   show ofM (fL x (cs.map f) ws)=(ofM (fL x cs ws)).mp f;unfold fL
   split
   ·rfl
   ·split
    ·show dX.on _ _ _=dX.on _ _ _;rw[List.map_set,hf _ o5.1]
    ·rfl
  |shift=>
   show ofM (cS x (cs.map f) ws)=(ofM (cS x cs ws)).mp f;unfold cS
   split
   ·rfl
   ·split<;>exact xK hl λl=>rfl
  |turn=>
   show ofM (fV x (cs.map f) ws)=(ofM (fV x cs ws)).mp f;unfold fV xm
   split
   ·rfl
   ·split
    ·rfl
    ·by_cases m1:ai ws "look" x.h=true
     ·by_cases m2:ai ws "look" (x.h+x.l-1)=true
      ·have g1:=au m1;have g2:=au m2;rw[if_pos m1,if_pos m2,if_pos m1,if_pos m2,su g1.1 nofun,su g2.1 nofun,<-List.map_set,<-List.map_set]
       split
       ·split<;>rfl
       ·rfl
      ·rw[if_pos m1,if_neg m2,if_pos m1,if_neg m2];rfl
     ·rw[if_neg m1,if_neg m1];rfl
def uq (hb:aC r)(hx:x.ok)(hl:ws.length<=60)(h:cf x cs ws r=.on n x' cs'):x'.ok:=by
 have ox:=hx;obtain ⟨o1,o2,o3,o4,o5,o6⟩:=hx;cases r with
 |hop m o=>cases h;exact ox
 |sp s=>
  have gv:∀ b i,g5 (ba x cs b i)=.on n x' cs'->x'.ok:=λb i h=>by
   unfold ba at h
   split at h
   ·rename_i g;cases h;exact yG g ox
   ·cases h
  cases s with
  |set b i=>exact gv _ _ h
  |add b i=>exact gv _ _ h
  |take b c=>exact gv _ _ h
  |read b=>exact hb.elim
  |write b=>
   have h:g5 (if dD (v4 (x.g b))=true then (if ai ws "put" x.t=true then .on x (cs.set x.t.toNat (x.g b)) else .no "put" x.t) else .nf b (x.g b))=.on n x' cs':=h
   split at h
   ·split at h
    ·cases h;exact ox
    ·cases h
   ·cases h
 |lg w=>
  have h:ofM (ck w x cs ws)=.on n x' cs':=h;cases e:ck w x cs ws with
  |on r y c=>rw[e] at h;cases h;exact (nc e).1.2.2 ox hl
  |no d c=>rw[e] at h;cases h
def yu (hf:∀ j,0<=j->f j=j) (hb:∀ r ∈ rs,aC r) (hx:x.ok) (hl:cs.length=ws.length):(mS rs at_ x (cs.map f) ws).w=(mS rs at_ x cs ws).w/\(mS rs at_ x (cs.map f) ws).at_=(mS rs at_ x cs ws).at_/\(mS rs at_ x (cs.map f) ws).x=(mS rs at_ x cs ws).x/\(mS rs at_ x (cs.map f) ws).cs=(mS rs at_ x cs ws).cs.map f:=by
 unfold mS;cases e:rs[at_.toNat]? with
 |none=>exact ⟨rfl,rfl,rfl,rfl⟩
 |some r=>
  dsimp only;rw[yl hf (hb r (db e)) hx hl];cases cf x cs ws r<;>exact ⟨rfl,rfl,rfl,rfl⟩
def uy (hb:∀ r ∈ rs,aC r) (hx:x.ok) (hl:ws.length<=60):(mS rs at_ x cs ws).x.ok:=by
 unfold mS;cases e:rs[at_.toNat]? with
 |none=>exact hx
 |some r=>
  dsimp only;cases ho:cf x cs ws r with
  |on n x' cs'=>exact uq (hb r (db e)) hx hl ho
  |_=>exact hx
end
inductive Tr (rs:List Rw) (ws:List Str):Int->Bx->List Int->List (Bx×List Int)->Prop where
 |stop {at_:Int}{x:Bx}{cs:List Int}(h:(mS rs at_ x cs ws).w≠"on"):Tr rs ws at_ x cs [(x,cs)]
 |on {at_:Int}{x:Bx}{cs:List Int}{L:List (Bx×List Int)}(h:(mS rs at_ x cs ws).w="on") (t:Tr rs ws (mS rs at_ x cs ws).at_ (mS rs at_ x cs ws).x (mS rs at_ x cs ws).cs L):Tr rs ws at_ x cs ((x,cs)::L)
section
variable {rs:List Rw}{ws:List Str}{at_:Int}{x:Bx}{cs:List Int}{L L':List (Bx×List Int)}
def Tr.det (h:Tr rs ws at_ x cs L):∀ {L'},Tr rs ws at_ x cs L'->L=L':=by
 induction h with
 |stop h=>
  intro L' h';cases h' with
  |stop=>rfl
  |on g=>exact absurd g h
 |on h t ih=>
  intro L' h';cases h' with
  |stop g=>exact absurd h g
  |on g t'=>rw[ih t']
abbrev xw (f:Int->Int)(p:Bx×List Int):Bx×List Int:=(p.1,p.2.map f)
def Tr.map {f:Int->Int}(hf:∀ j,0<=j->f j=j) (hb:∀ r ∈ rs,aC r) (w60:ws.length<=60) (h:Tr rs ws at_ x cs L):x.ok->cs.length=ws.length->Tr rs ws at_ x (cs.map f) (L.map (xw f)):=by
 induction h with
 |stop h=>
  intro hx hl;exact .stop (by rw[(yu hf hb hx hl).1];exact h)
 |on h t ih=>
  intro hx hl;obtain ⟨e1,e2,e3,e4⟩:=yu (at_:=_) hf hb hx hl;refine .on (by rw[e1];exact h) ?_;rw[e2,e3,e4];exact ih (uy hb hx w60) (by rw[(vq hx.2.2.1.1).2];exact hl)
def Tr.all {P:Bx×List Int->Prop}(hb:∀ r ∈ rs,aC r) (w60:ws.length<=60) (hP:∀ x cs,x.ok->cs.length=ws.length->P (x,cs)) (h:Tr rs ws at_ x cs L):x.ok->cs.length=ws.length->∀ p ∈ L,P p:=by
 induction h with
 |stop h=>
  intro hx hl p hp;rw[mem_singleton.mp hp];exact hP _ _ hx hl
 |on h t ih=>
  intro hx hl p hp;rcases lw.mp hp with rfl|hp
  ·exact hP _ _ hx hl
  ·exact ih (uy hb hx w60) (by rw[(vq hx.2.2.1.1).2];exact hl) p hp
def Tr.ne (h:Tr rs ws at_ x cs L):∃ L',L=(x,cs)::L':=by cases h<;>exact ⟨_,rfl⟩
def Tr.ex (hb:∀ r ∈ rs,aC r) (ok:∀ r ∈ rs,Rw.ok r) (w60:ws.length<=60):∀ (n:Nat){at_:Int}{x:Bx}{cs:List Int},sr rs ws.length at_ x<=n->x.ok->0<=at_->at_<=rs.length->∃ L,Tr rs ws at_ x cs L/\L.length<=n+1
 |n,at_,x,cs,hn,hx,h0,h1=>by
  by_cases h:(mS rs at_ x cs ws).w="on"
  ·obtain ⟨p1,p2⟩:=pE (cs:=cs) (ws:=ws) hx.2.2.2.1 h0 ok w60 h;obtain ⟨g0,g1,_⟩:=EU (x:=x) (cs:=cs) (ws:=ws) h0 h1 ok;cases n with
   |zero=>omega
   |succ n=>
    obtain ⟨L,t,hL⟩:=Tr.ex hb ok w60 n (at_:=(mS rs at_ x cs ws).at_) (x:=(mS rs at_ x cs ws).x) (cs:=(mS rs at_ x cs ws).cs) nofun (uy hb hx w60) g0 g1;exact ⟨(x,cs)::L,.on h t,by rw[length_cons];omega⟩
  ·exact ⟨[(x,cs)],.stop h,by simp⟩
end
def Fv {cs:List Nat}{j:Nat}{fs:List (Str×V)}{b:Bool}(s:Sep O H)(ho:G.T.oc.contains j=true)(e:H a=some (wr (G.R.cad j) dx fs))(hb:anyS G j cs=some b)(q:∀ p H',Sep (tu p (cs.map λc=>ut (G.R.cad c))::O) H'->Q (.bl b) H'):∀ p,H p=none->rl G cs (ut a) (upd H p (wp (cs.map λc=>ut (G.R.cad c)))) Q:=λp hp=>by
 unfold rl;refine .inr ⟨a,j,b,rfl,.inl ⟨ho,dx,fs,?_⟩,hb,q p _ (s.iK hp)⟩;rw[ag λz=>by rw[z,hp] at e;cases e];exact e
abbrev aL:Rw->Bool
 | .lg .seek=>true
 | .lg .mtch=>true
 | .sp (.read _)=>true
 |_=>false
def qk (hT:G.T=tab)(r:Rw):anyS G r.cl [18,19,14]=some (aL r)/\G.T.oc.contains r.cl=true:=by
 cases G;cases hT;cases r with
 |lg w=>cases w<;>exact ⟨rfl,rfl⟩
 |sp s=>cases s<;>exact ⟨rfl,rfl⟩
 |hop n o=>exact ⟨rfl,rfl⟩
def gQ (h:aL r=false):aC r:=by
 cases r with
 |lg w=>cases w<;>first|exact True.intro|cases h
 |sp s=>cases s<;>first|exact True.intro|cases h
 |hop n o=>exact True.intro
section
variable {L:Addr}{ds:List V}{rs:List Rw}
def Dj (hk:1<=k)(z:Sep O H)(p:af (lj R d r) O Δ)(q:∀ H',Sep O H'->Q (.bl (aL r)) H'):ab tab R k 70 [ut d] H Q E:=by
 delta cu;obtain ⟨dx,fs,e⟩:=DP z p;left;exact Fv z (qk rfl r).2 e (qk rfl r).1 (λp H' z'=>q H' z'.drop)
end
section
variable {L:Addr}{ds:List V}{rs:List Rw}
def jv {x:Addr}(hk:1<=k)(s:Sep (pt x (.exc (R.cad 8) none [] true)::O) H)(q:∀ d H',Sep (pt x (.exc (R.cad 8) (some d) [("at",v)] true)::pt d (.own x)::O) H'->Q wl H'):ab tab R k 7 [ut x,v] H Q E:=by
 delta cq;right;refine ⟨_,8,_,_,_,_,rfl,by grind,rfl,?_⟩;right;refine uZ s rfl rfl (λd H hs=>?_);right;exact q d H hs
def lO (hk:2<=k)(hd:cb R O ds rs)(z:Sep O H)(p:af (pt L (wn ds)) O Δ)(q0:rs.any aL=false->∀ H',Sep O H'->Q wl H')
  (q1:∀ (j:Nat) r,rs[j]? =some r->aL r=true->(∀ (i:Nat) r,i<j->rs[i]? =some r->aL r=false)->∀ e H',Sep (lC (R.cad 8) [("at",v4 (j:Int))] e false::O) H'->E e H'):ab tab R k 71 [ut L] H Q E:=by
 delta fM;have hl:=hd.1;left;refine ⟨rfl,?_⟩;refine Gh (z.get p) ?_;refine oh (xs:=ds) (λj U H=>∃ u v,U=[some (ut L),u,v]/\(∀ (i:Nat) r,i<j->rs[i]? =some r->aL r=false)/\Sep O H) ?_ ?_ ?_ ?_
 ·exact ⟨none,none,rfl,λi r h=>absurd h (Nat.not_lt_zero _),z⟩
 ·rintro j U H ⟨u,v,rfl,_,hs⟩;exact hs.get p
 ·rintro j y T U H hy ⟨u,v,rfl,hb,hs⟩ hT;have hyl:=(sK.mp hy).1;have er:rs[j]? =some (rs[j]'nofun):=li _;generalize rs[j]'nofun=r at er;obtain ⟨a,Δ',e3,pp⟩:=hd.2 _ _ er;rw[hy] at e3;cases e3;have hs4:=hs.iK (xs:=[v4 j,ut a]) hT;generalize upd H T _=H4 at hs4⊢;have eT:=hs4.atT;left;refine ⟨T,_,rfl,.inl (aS.of eT),rfl,?_⟩;left;refine ⟨rfl,?_⟩;refine Dj nofun hs4 (.t pp) (λH5 z5=>?_);cases hr:aL r with
  |false=>
   left;refine aw rfl ?_;refine ⟨_,_,rfl,λi r' hi e=>?_,z5.drop⟩
   by_cases he:i=j
   ·subst he;rw[er] at e;cases e;exact hr
   ·exact hb i r' nofun e
  |true=>
   left;refine aN rfl ?_;right;intro x hx;refine jv nofun (z5.new hx) (λd H hs=>?_);right;exact eP hs (by ac_rfl) rfl (λH hs=>q1 j r er hr hb x H ((iU hs).sub (by ac_nf)))
 ·rintro U H ⟨u,v,rfl,hb,hs⟩;refine q0 ?_ H hs;rw[any_eq_false];intro r hr;obtain ⟨i,hi⟩:=getElem?_of_mem hr;have:=(sK.mp hi).1;simp[hb i r nofun hi]
end
def cb.app {L:List aq}(h:cb R O ds rs):cb R (L++O) ds rs:=⟨h.1,λi r e=>by
 obtain ⟨a,Δ,e2,p⟩:=h.2 i r e;exact ⟨a,_,e2,aa p⟩⟩
def Sep.mv:∀ {L P Δ O:List aq}{H:Hp},Sep (P++(Δ++(L++O))) H->Sep (P++(L++(Δ++O))) H
 | [],_,_,_,_,z=>z
 |A::L,P,Δ,O,H,z=>(Sep.mv (L:=L) (P:=A::P) (Δ:=Δ) (O:=O) (z.pull (aa (aa .e)))).push (aa .e)
abbrev en (n:Nat):List Int:=(List.range n).map λi:Nat=>-1-(i:Int)
abbrev a7 (n:Nat):List Str:=sw n (Str.ofString "open")
def dJ:(en n).length=n:=by unfold en;rw[ci,length_range]
def aG:(a7 n).length=n:=length_replicate
def K9 (h0:1<=n)(h1:n<=60):Hv (en n) (a7 n):=⟨by rw[dJ,aG],by rw[dJ];exact h0,by rw[dJ];exact h1,by rw[aG];rfl⟩
def C8 (hk:1<=k)(n0:1<=n)(n1:n<=60)(z:Sep (pt a (wr (R.cad 24) dx [])::pt dx (.own a)::O) H)(q:∀ H',Sep (cj R a (en n) (a7 n)::O) H'->Q wl H'):ab tab R k 72 [ut a,v4 (n:Int)] H Q E:=by
 delta cF;left;refine ⟨rfl,⟨by omega,by omega,?_⟩⟩;refine nM (n:=(n:Int).toNat) nofun (λD ys H=>Sep (pt D (wn ys)::cV ys (en ys.length)::pt a (wr (R.cad 24) dx [])::pt dx (.own a)::O) H) (λD hD=>(cV.mk (by rfl) (λi v j h=>by cases h) (z.new (o:=wn []) hD)).pull .k1) (λD ys H hl hI=>?_) (λD ys H hl hI=>?_)
 ·left;refine aY hI (ol rfl) (λT H2 z2=>?_);have z3:=(z2.pull .k1).set (o':=wn (ys++[ut T])) rfl;refine pA.mk (z2.get .k1) nofun ?_;have e1:H2 T=some (wp [wf "cell",v4 (0+((ys.length:Nat):Int))]):=z2.at;have e0:=z3.get .k1;have z4:=cV.snoc (z3.pull .k2) (v:=ut T) (j:= -1-((ys.length:Nat):Int)) ⟨T,rfl,by
   rw[xx,if_pos nofun,show -1-(-1-((ys.length:Nat):Int))=0+((ys.length:Nat):Int) by omega];exact e0⟩
  have e5:en ys.length++[-1-((ys.length:Nat):Int)]=en (ys++[ut T]).length:=by
   unfold en;rw[cr,ge,List.range_succ,f8]
   rfl
  rw[e5] at z4;exact z4.sub (by ac_nf)
 ·right;rename_i H2 z2;rw[hl,re] at z2;exact q H2 (ES (dx:=dx) (l:=D) (vs:=ys) (by rw[dJ];omega) (K9 n0 n1) (z2.sub (by ac_nf)))
def uF {cs:List Int}(hk:1<=k)(z:Sep O H)(p:af (cj R a cs ws) O Δ)(q:∀ l vs H',Sep (pt l (wn vs)::cV vs cs::O) H'->Q (ut l) H'):ab tab R k 76 [ut a] H Q E:=by
 delta eL;obtain ⟨dx,l,vs,⟨h1,h2,h3,h4,h5⟩,z1⟩:=qx (z.pull p);have z0:Sep (cV vs cs::O) H:=cV.mk (cV.of (z1.pull .k3)).1 (cV.of (z1.pull .k3)).2 z;left;refine bY z1.at rfl rfl rfl ?_;left;exact dw z0 (z1.get .k2) (λp2 H2 z2=>q p2 vs H2 z2)
noncomputable abbrev Sh:=Addr×(Bx×List Int)
abbrev k9 (p:Sh):aq:=bx λq:Addr×Addr×List V=>[tu p.1 [ut q.1,ut q.2.1],tu q.1 (p.2.1.ls.map v4),pt q.2.1 (wn q.2.2),cV q.2.2 p.2.2]
abbrev dP (p:Sh):V:=ut p.1
variable {p:Sh}
def Hk (z:Sep (k9 p::O) H):∃ b l vs,Sep (tu p.1 [ut b,ut l]::tu b (p.2.1.ls.map v4)::pt l (wn vs)::cV vs p.2.2::O) H:=by
 obtain ⟨⟨b,l,vs⟩,z⟩:=fw z;exact ⟨b,l,vs,z⟩
def IT {t b l:Addr}{cs:List Int}(z:Sep (tu t [ut b,ut l]::tu b (x.ls.map v4)::pt l (wn vs)::cV vs cs::O) H):Sep (k9 (t,x,cs)::O) H:=gf (b,l,vs) z
section
variable {L b m l s a b2 T:Addr}{ds:List V}{rs:List Rw}{x x0:Bx}{cs:List Int}{ws:List Str}{at_:Int}
abbrev Kj (R:Rt)(L b m l s a b2 T:Addr)(N:Nat)(ds:List V)(rs:List Rw)(x0:Bx)(O:List aq)(n:Nat)(U:St)(H:Hp):Prop:=∃ at_ x cs,∃ (S:List Sh) (P:List (Bx×List Int)),0<=at_/\at_<=(rs.length:Int)/\x.ok/\n=sr rs N at_ x/\S.length+n<=1600/\S.map (·.2)=P++[(x,cs)]/\(∀ L,Tr rs (a7 N) at_ x cs L->Tr rs (a7 N) 0 x0 (en N) (P++L))/\U=[some (ut L),some (ut b),some (v4 (N:Int)),some (ut m),some (ut a),some (ut T)]/\Sep (xj R m l s b2 at_ ds::cj R a cs (a7 N)::aH R b2 x::pt T (wn (S.map dP))::pt L (wn ds)::aH R b x0::(S.reverse.map k9++O)) H
def ml (ro:Ro K R)(hk:12<=k)(n0:1<=rs.length)(n1:rs.length<=24)(ok:∀ r ∈ rs,r.ok) (hb:rs.any aL=false) (hd:cb R O ds rs) (s0:1<=N) (s1:N<=60) (z:Sep (pt L (wn ds)::aH R b x::O) H)
  (q:∀ T (S:List Sh) H',S.length<=1600->Tr rs (a7 N) 0 x (en N) (S.map (·.2))->Sep (pt T (wn (S.map dP))::pt L (wn ds)::aH R b x::(S.reverse.map k9++O)) H'->Q (ut T) H'):ab tab R k 77 [ut L,ut b,v4 (N:Int)] H Q E:=by
 delta mq;have hl:=hd.1;have hbl:∀ r ∈ rs,aC r:=λr hr=>gQ (by
  have:=any_eq_false.mp hb r hr;simpa using this)
 right;refine hR ro nofun nofun nofun z .e hd.more.more.all (λH1 z1=>?_);clear z;right;refine lO nofun hd.more.more z1 .e (λ_ H2 z2=>?_) (λj r e h _=>by
  have:=any_eq_false.mp hb r (db e);rw[h] at this;exact absurd rfl this)
 clear z1;right;rename_i l0 H3 z3;intro s dx g1 g2 g3;refine uf (cs:=[0]) ro nofun (by decide) (by decide) (λi hi=>by rw[mem_singleton.mp hi];decide) (jA z3 g1 g2 g3) .e (λH4 z4=>⟨rfl,?_⟩);clear z2 z3;left;intro m dm g1 g2 g3;refine wN (at_:=0) (s:=s) (x:=x) (cs:=[0]) ro nofun nofun nofun (by decide) nofun .k2 .e .k3 hd.more.more.more.more.all (jA z4 g1 g2 g3) (λl2 s2 b2 H5 z5=>⟨rfl,?_⟩);clear z4;left;refine ⟨rfl,?_⟩;left;intro a da g1 g2 g3;refine C8 nofun s0 s1 (jA z5 g1 g2 g3) (λH6 z6=>⟨rfl,?_⟩);clear z5;have z7:Sep (xj R m l2 s2 b2 0 ds::cj R a (en N) (a7 N)::aH R b2 x::pt L (wn ds)::aH R b x::O) H6:=z6.sub (by ac_nf);clear z6;have hx:x.ok:=lS z7 .k2;right;refine ah bq z7 (.t .k3) rfl rfl ?_;left;refine uC ro nofun z7 (.t .k3) (λt1 H7 z8=>?_);right;refine ah bM z8 .k2 rfl rfl ?_;left;refine uF nofun z8 .k2 (λl3 vs H8 z9=>?_);left;refine aY z9 (ol rfl) (λt2 H9 z10=>?_);left;refine iI z10 (ol rfl) (λT HA z11=>?_);have z11a:Sep (k9 (t2,x,en N)::pt T (wn [ut t2])::xj R m l2 s2 b2 0 ds::cj R a (en N) (a7 N)::aH R b2 x::pt L (wn ds)::aH R b x::O) HA:=IT (b:=t1) (l:=l3) (vs:=vs) ((z11.pull .k1).toT.sub (by ac_nf));have z12:Sep (xj R m l2 s2 b2 0 ds::cj R a (en N) (a7 N)::aH R b2 x::pt T (wn [ut t2])::pt L (wn ds)::aH R b x::k9 (t2,x,en N)::O) HA:=z11a.sub (by ac_nf);clear z7 z8 z9 z10 z11 z11a;left;refine ⟨Kj R L b m l2 s2 a b2 T N ds rs x O,⟨sr rs N 0 x,0,x,en N,[(t2,x,en N)],[],by decide,by omega,hx,rfl,?_,rfl,λL t=>t,rfl,z12⟩,?_⟩
 ·have:=sQ (rs:=rs) (N:=N) (at_:=0) (x:=x);have e:rs.length-Int.toNat 0=rs.length:=by simp
  rw[e] at this;simp only[ge]
  omega
 clear z12;rintro n U H ⟨at_,x1,cs1,S,P,a0,a1,hx1,rfl,hn,hS,hT,rfl,zz⟩;obtain ⟨g0,g1,g2⟩:=EU (x:=x1) (cs:=cs1) (ws:=a7 N) a0 a1 ok;left;refine ⟨rfl,?_⟩;refine ah Ek zz .e rfl rfl ?_;left;refine vF (rs:=rs) ro nofun hbl a0 nofun hd.app.more.more.more zz (λH2 z2=>?_);have ho:=λL=>Tr.on (rs:=rs) (ws:=a7 N) (at_:=at_) (x:=x1) (cs:=cs1) (L:=L)
 have hst:=Tr.stop (rs:=rs) (ws:=a7 N) (at_:=at_) (x:=x1) (cs:=cs1);have hps:=pE (rs:=rs) (at_:=at_) (x:=x1) (cs:=cs1) (ws:=a7 N) hx1.2.2.2.1 a0 ok (by rw[aG];exact s1);have hok:=uy (rs:=rs) (at_:=at_) (cs:=cs1) hbl hx1 (ws:=a7 N) (by rw[aG];exact s1);rw[aG] at hps;generalize hm:mS rs at_ x1 cs1 (a7 N)=M at z2 g0 g1 g2 ho hst hps hok
 obtain ⟨word,at2,x2,cs2⟩:=M;dsimp only at z2 g0 g1 g2 ho hst hps hok;clear zz;rcases g2 with rfl|⟨hwd,rfl,rfl,rfl⟩
 ·obtain ⟨p1,p2⟩:=hps rfl;left;refine jI rfl rfl ?_;left;refine aN (by rw[kK rfl]) ?_;refine ⟨λσ' H'=>Kj R L b m l2 s2 a b2 T N ds rs x O (sr rs N at2 x2) σ' H',λσ' H' h=>⟨_,p1,h⟩,?_⟩;left;refine ⟨T,_,rfl,z2.get .k3,?_⟩;obtain ⟨dx,z3⟩:=Gi z2;left;refine ⟨rfl,?_⟩;refine bY z3.at rfl rfl rfl ?_;clear z3;refine ah bq z2 .k2 rfl rfl ?_;left;refine uC ro nofun z2 .k2 (λt3 H3 z4=>?_);right;refine ah bM z4 .k2 rfl rfl ?_;left;refine uF nofun z4 .k2 (λl4 vs2 H4 z5=>?_);left;refine aY z5 (ol rfl) (λt4 H5 z6=>?_);left;refine ⟨_,z6.get (.j2 (.j2 .k3)),vn z6 (.j2 (.j2 .k3)) (by rw[ci];omega) (λH6 z7=>?_)⟩;refine ⟨at2,x2,cs2,S++[(t4,x2,cs2)],P++[(x1,cs1)],g0,g1,hok,rfl,by rw[cr,ge];omega,by rw[f8,hS];rfl,λL t=>?_,rfl,?_⟩
  ·rw[le];exact hT _ (ho L rfl t)
  ·rw[reverse_append,f8,f8,le];have z8:Sep (k9 (t4,x2,cs2)::xj R m l2 s2 b2 at2 ds::cj R a cs2 (a7 N)::aH R b2 x2::pt T (wn (S.map dP++[ut t4]))::pt L (wn ds)::aH R b x::(S.reverse.map k9++O)) H6:=IT (b:=t3) (l:=l4) (vs:=vs2) (z7.toT.sub (by ac_nf));show Sep (xj R m l2 s2 b2 at2 ds::cj R a cs2 (a7 N)::aH R b2 x2::pt T (wn (S.map dP++[ut t4]))::pt L (wn ds)::aH R b x::k9 (t4,x2,cs2)::(S.reverse.map k9++O)) H6;exact z8.sub (by ac_nf)
 ·have hne:kQ (wf word) (wf "on")=false:=by rcases hwd with rfl|rfl<;>decide+kernel
  left;refine jI rfl rfl ?_;left;refine aw hne ?_;left;refine q T S H2 nofun ?_ (z2.sub (by ac_nf));rw[hS];exact hT _ (hst (by rcases hwd with rfl|rfl<;>decide+kernel))
end
abbrev DW (x:Bx):Rw->List Int
 | .lg w=>looks w x
 | .sp (.read _)=>[x.h]
 |_=>[]
abbrev Er (x:Bx):Rw->List Int
 | .lg w=>zL w x
 | .sp (.write _)=>[x.t]
 |_=>[]
def hJ {sp:Addr}(r:Rw)(hb:aC r)(hk:1<=k)(z:Sep (tu sp r.tl::ak d x::O) H)
  (q:∀ t l1 l2 H',Sep (tu t [ut l1,ut l2]::pt l1 (wn ((DW x r).map v4))::pt l2 (wn ((Er x r).map v4))::tu sp r.tl::ak d x::O) H'->Q (ut t) H'):ab tab R k 98 [ut sp,ut d] H Q E:=by
 obtain ⟨h,t,l,w,s,m⟩:=x;delta gK;have fi:∀ (L P:List Int){p l1 l2:Addr}{H3:Hp},DW ⟨h,t,l,w,s,m⟩ r=L->Er ⟨h,t,l,w,s,m⟩ r=P->Sep (pt p (wp [ut l1,ut l2])::pt l2 (wn (P.map v4))::pt l1 (wn (L.map v4))::tu sp r.tl::ak d ⟨h,t,l,w,s,m⟩::O) H3->Q (ut p) H3:=by
  intro L P p l1 l2 H3 e1 e2 z3;refine q p l1 l2 H3 ?_;rw[e1,e2];have z4:=z3.toT;walk_at "sp"
 clear q;cases r with
 |lg wd=>
  have L0:l≠0->DW ⟨h,t,l,w,s,m⟩ (.lg wd)=BA h t l wd:=λe=>if_neg e
  have P0:l≠0->Er ⟨h,t,l,w,s,m⟩ (.lg wd)=DM h t l wd:=λe=>if_neg e
  have L1:l=0->DW ⟨h,t,l,w,s,m⟩ (.lg wd)=[]:=λe=>if_pos e
  have P1:l=0->Er ⟨h,t,l,w,s,m⟩ (.lg wd)=[]:=λe=>if_pos e
  cases wd
  case seek=>exact hb.elim
  case mtch=>exact hb.elim
  case turn=>
   walk_at "wd"
   repeat walk_at "sc"
   refine az (λe=>?_) (λe=>?_)
   ·walk_at "wd";rename_i l1 H1 z1 l2 H2 z2 p H3 z3;exact fi [] [] (L1 e) (P1 e) z3
   walk_at "wd"
   repeat walk_at "sc"
   refine az (λe2=>?_) (λe2=>?_)
   ·walk_at "wd";rename_i l1 H1 z1 l2 H2 z2 p H3 z3;exact fi [] [] ((L0 e).trans (if_pos e2)) ((P0 e).trans (if_pos e2)) z3
   ·walk_at "wd"
    repeat walk_at "sc"
    rename_i l1 H1 z1 l2 H2 z2 p H3 z3;exact fi [h,h+l-1] [h,h+l-1] ((L0 e).trans (if_neg e2)) ((P0 e).trans (if_neg e2)) z3
  case shift=>
   walk_at "wd"
   repeat walk_at "sc"
   refine az (λe=>?_) (λe=>?_)
   ·walk_at "wd";rename_i l1 H1 z1 l2 H2 z2 p H3 z3;exact fi [] [] (L1 e) (P1 e) z3
   walk_at "wd"
   repeat walk_at "sc"
   walk_at "wd";dsimp only;refine aJ (by grind) MX ?_
   by_cases e2:t<=h
   ·rw[if_pos (decide_eq_true e2)];walk_at "wd";rename_i l1 H1 z1 l2 H2 z2 p H3 z3;have z4:Sep (pt p (wp [ut l1,ut l2])::pt l2 (wn [v4 (t+0)])::pt l1 (wn [v4 (h+0)])::tu sp (Rw.tl (.lg .shift))::ak d ⟨h,t,l,w,s,m⟩::O) H3:=by walk_at "sp"
    exact fi [h+0] [t+0] ((L0 e).trans (if_pos e2)) ((P0 e).trans (if_pos e2)) z4
   ·rw[if_neg (by simpa using e2)];walk_at "wd";rename_i l1 H1 z1 l2 H2 z2 p H3 z3;have z4:Sep (pt p (wp [ut l1,ut l2])::pt l2 (wn [v4 (t+(l-1))])::pt l1 (wn [v4 (h+(l-1))])::tu sp (Rw.tl (.lg .shift))::ak d ⟨h,t,l,w,s,m⟩::O) H3:=by walk_at "sp"
    exact fi [h+(l-1)] [t+(l-1)] ((L0 e).trans (if_neg e2)) ((P0 e).trans (if_neg e2)) z4
  all_goals
   walk_at "wd"
   repeat walk_at "sc"
   refine az (λe=>?_) (λe=>?_)
   ·walk_at "wd";rename_i l1 H1 z1 l2 H2 z2 p H3 z3;exact fi [] [] (L1 e) (P1 e) z3
   walk_at "wd"
   repeat walk_at "sc"
   rename_i l1 H1 z1 l2 H2 z2 p H3 z3;exact fi _ _ (L0 e) (P0 e) z3
 |sp s'=>
  cases s'
  case read=>exact hb.elim
  case write=>
   walk_at "wd"
   repeat walk_at "sc"
   rename_i l1 H1 z1 l2 H2 z2 p H3 z3;exact fi _ _ rfl rfl z3
  all_goals
   walk_at "wd"
   repeat walk_at "sc"
   refine az (λe=>?_) (λe=>?_)
   ·walk_at "wd";rename_i l1 H1 z1 l2 H2 z2 p H3 z3;exact fi [] [] rfl rfl z3
   walk_at "wd"
   repeat walk_at "sc"
   rename_i l1 H1 z1 l2 H2 z2 p H3 z3;exact fi [] [] rfl rfl z3
 |hop n o=>
  walk_at "wd"
  repeat walk_at "sc"
  refine az (λe=>?_) (λe=>?_)
  ·walk_at "wd";rename_i l1 H1 z1 l2 H2 z2 p H3 z3;exact fi [] [] rfl rfl z3
  walk_at "wd"
  repeat walk_at "sc"
  rename_i l1 H1 z1 l2 H2 z2 p H3 z3;exact fi [] [] rfl rfl z3
abbrev dX.tl:dX->List V
 | .on r _ _=>[wf "on",v4 r,v4 0]
 | .no d c=>[wf d,v4 c,v4 0]
 | .nf b i=>[wf "fit",wf b.nm,v4 i]
def Io {d:Str}:ai (a7 N) d c=(decide (0<=c)&&decide (c<(N:Int))):=by
 rw[Ep (ws:=a7 N) (by rw[aG];rfl),aG]
def dy {sp t l1 l2:Addr}{tl:List V}{ls ps:List Int}{D:Ends}{E:St->XK}{u:Option V}(z1:Sep (tu t [ut l1,ut l2]::pt l1 (wn (ls.map v4))::pt l2 (wn (ps.map v4))::tu sp tl::ak d x::O) H)
  (q0:cL (a7 N) ls ps=none->∀ H',Sep (tu sp tl::ak d x::O) H'->D.rt wl H')
  (q1:∀ dd c,cL (a7 N) ls ps=some (dd,c)->∀ t H',Sep (pt t (wp [wf dd,v4 c,v4 0])::tu sp tl::ak d x::O) H'->D.rt (ut t) H'):
  wB (qA 2 bV.body) ⟨tab,R,ab tab R (k-1),true⟩ D E [some (ut sp),some (ut d),some (v4 (N:Int)),some (ut l1),some (ut l2),u] H:=by
 right;refine jP (xs:=ls.map v4) (λj U H=>∃ v,U=[some (ut sp),some (ut d),some (v4 (N:Int)),some (ut l1),some (ut l2),v]/\(∀ i x,i<j->ls[i]? =some x->ai (a7 N) "look" x=true)/\Sep (tu t [ut l1,ut l2]::pt l1 (wn (ls.map v4))::pt l2 (wn (ps.map v4))::tu sp tl::ak d x::O) H) ?_ ?_ ?_ ?_
 ·exact ⟨_,rfl,λi x hi=>absurd hi nofun,z1⟩
 ·rintro j U H ⟨v,rfl,_,hs⟩;exact bc.of (by grind)
 ·rintro j y U H hx ⟨v,rfl,hb,hs⟩;rw[io] at hx;obtain ⟨c,hc,rfl⟩:=nb.mp hx;have no:ai (a7 N) "look" c=false->∀ (p:Addr) H2,Sep (pt p (wp [wf "look",v4 c,v4 0])::tu t [ut l1,ut l2]::pt l1 (wn (ls.map v4))::pt l2 (wn (ps.map v4))::tu sp tl::ak d x::O) H2->D.rt (ut p) H2:=λhm p H2 z2=>by
   refine q1 "look" c ?_ p H2 ?_
   ·unfold cL;rw[nj hb hc hm]
   ·walk_at "sp"
  have ee:=Io (N:=N) (d:="look") (c:=c);right;refine aA (λh0=>?_) (λh0=>?_)
  ·rw[decide_eq_true h0,Bool.true_and] at ee;right;refine aA (λh1=>?_) (λh1=>?_)
   ·right;refine ⟨_,rfl,λi x hi hxx=>?_,hs⟩
    by_cases e:i=j
    ·subst e;rw[hc] at hxx;cases hxx;rw[ee];exact decide_eq_true h1
    ·exact hb i x nofun hxx
   ·right;rename_i p H2 z2;exact no (by rw[ee];exact decide_eq_false h1) p H2 z2
  ·rw[decide_eq_false h0,Bool.false_and] at ee;right;rename_i p H2 z2;exact no ee p H2 z2
 ·rintro U H ⟨v,rfl,hb,hs⟩;have e0:bj (a7 N) "look" ls=none:=jU λc hc=>by
   obtain ⟨i,hi⟩:=List.mem_iff_getElem?.mp hc;have:=(sK.mp hi).1;exact hb i c (by rw[ci];exact this) hi
  right;refine jP (xs:=ps.map v4) (λj U H=>∃ v,U=[some (ut sp),some (ut d),some (v4 (N:Int)),some (ut l1),some (ut l2),v]/\(∀ i x,i<j->ps[i]? =some x->ai (a7 N) "put" x=true)/\Sep (tu t [ut l1,ut l2]::pt l1 (wn (ls.map v4))::pt l2 (wn (ps.map v4))::tu sp tl::ak d x::O) H) ?_ ?_ ?_ ?_
  ·exact ⟨_,rfl,λi x hi=>absurd hi nofun,hs⟩
  ·rintro j U H ⟨v,rfl,_,hs⟩;exact bc.of (by grind)
  ·rintro j y U H hx ⟨v,rfl,hb,hs⟩;rw[io] at hx;obtain ⟨c,hc,rfl⟩:=nb.mp hx;have no:ai (a7 N) "put" c=false->∀ (p:Addr) H2,Sep (pt p (wp [wf "put",v4 c,v4 0])::tu t [ut l1,ut l2]::pt l1 (wn (ls.map v4))::pt l2 (wn (ps.map v4))::tu sp tl::ak d x::O) H2->D.rt (ut p) H2:=λhm p H2 z2=>by
    refine q1 "put" c ?_ p H2 ?_
    ·unfold cL;rw[e0];exact nj hb hc hm
    ·walk_at "sp"
   have ee:=Io (N:=N) (d:="put") (c:=c);right;refine aA (λh0=>?_) (λh0=>?_)
   ·rw[decide_eq_true h0,Bool.true_and] at ee;right;refine aA (λh1=>?_) (λh1=>?_)
    ·right;refine ⟨_,rfl,λi x hi hxx=>?_,hs⟩
     by_cases e:i=j
     ·subst e;rw[hc] at hxx;cases hxx;rw[ee];exact decide_eq_true h1
     ·exact hb i x nofun hxx
    ·right;rename_i p H2 z2;exact no (by rw[ee];exact decide_eq_false h1) p H2 z2
   ·rw[decide_eq_false h0,Bool.false_and] at ee;right;rename_i p H2 z2;exact no ee p H2 z2
  ·rintro U H ⟨v,rfl,hb2,hs⟩;right;refine q0 ?_ H (by walk_at "sp");unfold cL;rw[e0];exact jU λc hc=>by
    obtain ⟨i,hi⟩:=List.mem_iff_getElem?.mp hc;have:=(sK.mp hi).1;exact hb2 i c (by rw[ci];exact this) hi
def cC {sp:Addr}(r:Rw)(hb0:aC r)(hk:2<=k)(hr:∀ b,r=.sp (.write b)->dD (v4 (x.g b))=true) (z:Sep (tu sp r.tl::ak d x::O) H)
  (q0:cL (a7 N) (DW x r) (Er x r)=none->∀ H',Sep (tu sp r.tl::ak d x::O) H'->Q wl H')
  (q1:∀ dd c,cL (a7 N) (DW x r) (Er x r)=some (dd,c)->∀ t H',Sep (pt t (wp [wf dd,v4 c,v4 0])::tu sp r.tl::ak d x::O) H'->Q (ut t) H'):ab tab R k 100 [ut sp,ut d,v4 (N:Int)] H Q E:=by
 delta bV;cases r with
 |sp s=>
  cases s
  case write b=>
   have hc:(decide (0<=x.g b)&&decide (x.g b<=1000000000))=true:=hr b rfl;have hc:0<=x.g b/\x.g b<=1000000000:=by simpa using hc
   right
   repeat walk_at "sc"
   refine oY z .k1 ?_;right;refine aA (λh0=>?_) (λh0=>absurd hc.1 h0);right;rw[ff];refine aA (λh0=>?_) (λh0=>absurd hc.2 h0);right;refine hJ (.sp (.write b)) hb0 nofun z (λt l1 l2 H1 z1=>?_);right;refine ⟨t,_,rfl,.inl (aS.of z1.atT),rfl,?_⟩;exact dy z1 q0 q1
  all_goals
   right
   repeat walk_at "sc"
   refine hJ (.sp _) hb0 nofun z (λt l1 l2 H1 z1=>?_);right;refine ⟨t,_,rfl,.inl (aS.of z1.atT),rfl,?_⟩;exact dy z1 q0 q1
 |lg w=>
  cases w
  all_goals
   right
   repeat walk_at "sc"
   refine hJ (.lg _) hb0 nofun z (λt l1 l2 H1 z1=>?_);right;refine ⟨t,_,rfl,.inl (aS.of z1.atT),rfl,?_⟩;exact dy z1 q0 q1
 |hop n o=>
  right
  repeat walk_at "sc"
  refine hJ (.hop n o) hb0 nofun z (λt l1 l2 H1 z1=>?_);right;refine ⟨t,_,rfl,.inl (aS.of z1.atT),rfl,?_⟩;exact dy z1 q0 q1
def tB {sp:Addr}{b:Bn}(hk:2<=k)(hb:dD (v4 (x.g b))=false)(z:Sep (tu sp (Rw.tl (.sp (.write b)))::ak d x::O) H)
  (q:∀ t H',Sep (pt t (wp [wf "fit",wf b.nm,v4 (x.g b)])::tu sp (Rw.tl (.sp (.write b)))::ak d x::O) H'->Q (ut t) H'):ab tab R k 100 [ut sp,ut d,v4 (N:Int)] H Q E:=by
 delta bV;have hc:(decide (0<=x.g b)&&decide (x.g b<=1000000000))=false:=hb;have hc:0<=x.g b->¬ x.g b<=1000000000:=by simpa using hc
 right
 repeat walk_at "sc"
 refine oY z .k1 ?_;right;refine aA (λh0=>?_) (λh0=>?_)
 ·right;rw[ff];refine aA (λh1=>absurd h1 (hc h0)) (λh1=>?_);right;refine oY z .k1 ?_;right;rename_i t H1 z1;exact q t H1 z1
 ·right;refine oY z .k1 ?_;right;rename_i t H1 z1;exact q t H1 z1
abbrev qq (φ:Int->V)(d p:Addr)(O:List aq)(Q:VK):Out->Prop
 | .on r x' cs'=>∀ H',Sep (ak d x'::pt p (wn (cs'.map φ))::O) H'->Q (v4 r) H'
 | .no _ _=>True
section
variable {φ:Int->V}{cs:List Int}{ws:List Str}{d p:Addr}
def gU {v:Int}:(cs.map φ).set n (φ v)=(cs.set n v).map φ:=by rw[List.map_set]
def kM (h0:0<=i)(h1:i<cs.length):j7 (cs.map φ) i=some (φ (gt cs i)):=aF h0 (by rw[io,vA h0 h1];rfl)
def xZ (wd:Wd)(hb0:aC (.lg wd))(hφ:∀ j,0<=j->φ j=v4 j) (hk:2<=k) (hx:0<=x.l) (hs0:0<=x.s) (hl:cs.length=ws.length) (hb:cL ws (looks wd x) (zL wd x)=none) (z:Sep (ak d x::pt p (wn (cs.map φ))::O) H)
  (q:qq φ d p O Q (ck wd x cs ws)):ab tab R k 102 [wf wd.s,ut d,ut p] H Q E:=by
 delta g6;obtain ⟨h,t,l,w,s,m⟩:=x;obtain ⟨b1,b2⟩:=pY hb;dsimp only at hx hs0;cases wd
 case seek=>exact hb0.elim
 case mtch=>exact hb0.elim
 case copy=>
  have q:qq φ d p O Q (fW ⟨h,t,l,w,s,m⟩ cs ws):=q;have z0:=z;walk_at "wd";refine az (λe=>?_) (λe=>?_)
  ·rw[fW,if_pos e] at q;walk_at "wd";exact q _ z0
  have b1:bj ws "look" [h]=none:=(congrArg _ (if_neg e)).symm.trans b1;have b2:bj ws "put" [t]=none:=(congrArg _ (if_neg e)).symm.trans b2;have m1:=(aX b1).1;have m2:=(aX b2).1;obtain ⟨g1,g2⟩:=au m1;obtain ⟨g3,g4⟩:=au m2;rw[fW,if_neg e,hm,if_pos m1,if_pos m2] at q;walk_at "wd";refine aJ (by grind) (kM g1 nofun) ?_;walk_at "wd";refine dO z0 .k1 (eX g3 (by rw[ci];omega)) gU (λH1 z1=>?_);walk_at "wd"
  repeat walk_at "sc"
  walk_at "wd";rename_i H2 z2 H3 z3 H4 z4;rw[DT] at z4;rw[mn,DT];exact q _ z4
 case fill=>
  have q:qq φ d p O Q (fL ⟨h,t,l,w,s,m⟩ cs ws):=q;have z0:=z;walk_at "wd";refine az (λe=>?_) (λe=>?_)
  ·rw[fL,if_pos e] at q;walk_at "wd";exact q _ z0
  have b2:bj ws "put" [t]=none:=(congrArg _ (if_neg e)).symm.trans b2;have m2:=(aX b2).1;obtain ⟨g3,g4⟩:=au m2;rw[fL,if_neg e,if_pos m2] at q;walk_at "wd";refine dO (ys:=(cs.set t.toNat s).map φ) z0 .k1 (eX g3 (by rw[ci];omega)) (by rw[List.map_set,hφ s hs0]) (λH1 z1=>?_);walk_at "wd"
  repeat walk_at "sc"
  walk_at "wd";rename_i H2 z2 H3 z3;rw[DT] at z3;rw[mn,DT];exact q _ z3
 case shift=>
  have q:qq φ d p O Q (cS ⟨h,t,l,w,s,m⟩ cs ws):=q;have z0:=z;walk_at "wd";refine az (λe=>?_) (λe=>?_)
  ·rw[cS,if_pos e] at q;walk_at "wd";exact q _ z0
  rw[cS,if_neg e] at q;have b1:bj ws "look" (BA h t l .shift)=none:=(congrArg _ (if_neg e)).symm.trans b1;have b2:bj ws "put" (DM h t l .shift)=none:=(congrArg _ (if_neg e)).symm.trans b2;walk_at "wd"
  by_cases e2:t<=h
  ·have b1:bj ws "look" [h+0]=none:=(congrArg _ (if_pos e2)).symm.trans b1;have b2:bj ws "put" [t+0]=none:=(congrArg _ (if_pos e2)).symm.trans b2;rw[Int.add_zero] at b1 b2;have m1:=(aX b1).1;have m2:=(aX b2).1;obtain ⟨g1,g2⟩:=au m1;obtain ⟨g3,g4⟩:=au m2;rw[if_pos e2,hm,if_pos m1,if_pos m2] at q;refine aN (decide_eq_true e2) ?_;walk_at "wd";refine aJ (by grind) (kM g1 nofun) ?_;walk_at "wd";refine dO z0 .k1 (eX g3 (by rw[ci];omega)) gU (λH1 z1=>?_);walk_at "wd"
   repeat walk_at "sc"
   walk_at "wd";rename_i H2 z2 H3 z3 H4 z4;rw[DT] at z4;rw[mn,DT];exact q _ z4
  ·have b1:bj ws "look" [h+(l-1)]=none:=(congrArg _ (if_neg e2)).symm.trans b1;have b2:bj ws "put" [t+(l-1)]=none:=(congrArg _ (if_neg e2)).symm.trans b2;rw[show h+(l-1)=h+l-1 by omega] at b1;rw[show t+(l-1)=t+l-1 by omega] at b2;have m1:=(aX b1).1;have m2:=(aX b2).1;obtain ⟨g1,g2⟩:=au m1;obtain ⟨g3,g4⟩:=au m2;rw[if_neg e2,hm,if_pos m1,if_pos m2] at q;refine aw (decide_eq_false e2) ?_;walk_at "wd";refine aJ (by grind) (kM g1 nofun) ?_;walk_at "wd";refine dO z0 .k1 (eX g3 (by rw[ci];omega)) gU (λH1 z1=>?_);walk_at "wd"
   repeat walk_at "sc"
   walk_at "wd";rename_i H2 z2;rw[DT] at z2;rw[mn,DT];exact q _ z2
 case turn=>
  have q:qq φ d p O Q (fV ⟨h,t,l,w,s,m⟩ cs ws):=q;have z0:=z;walk_at "wd";refine az (λe=>?_) (λe=>?_)
  ·rw[fV,if_pos e] at q;walk_at "wd";exact q _ z0
  rw[fV,if_neg e] at q;have b1:bj ws "look" (BA h t l .turn)=none:=(congrArg _ (if_neg e)).symm.trans b1;have b2:bj ws "put" (DM h t l .turn)=none:=(congrArg _ (if_neg e)).symm.trans b2;walk_at "wd"
  repeat walk_at "sc"
  refine aA (λe2=>?_) (λe2=>?_)
  ·have b1:bj ws "look" [h,h+l-1]=none:=(congrArg _ (if_neg nofun)).symm.trans b1;have b2:bj ws "put" [h,h+l-1]=none:=(congrArg _ (if_neg nofun)).symm.trans b2;obtain ⟨m1,b1⟩:=aX b1;obtain ⟨m3,b2⟩:=aX b2;have m2:=(aX b1).1;have m4:=(aX b2).1;obtain ⟨g1,g2⟩:=au m1;obtain ⟨g3,g4⟩:=au m2;rw[if_neg (show ¬ l=1 by omega),xm,if_pos m1,if_pos m2,if_pos m3,if_pos m4] at q;walk_at "wd";refine aJ (by grind) (kM g1 nofun) ?_;walk_at "wd";refine aJ (by grind) (kM g3 nofun) ?_;walk_at "wd";refine dO z0 .k1 (eX g1 (by rw[ci];omega)) gU (λH1 z1=>?_);walk_at "wd";refine dO z1 .k1 (eX g3 (by rw[ci,length_set];omega)) gU (λH2 z2=>?_);walk_at "wd";rename_i H3 z3 H4 z4;rw[MA] at z4;rw[mn,MA];exact q _ z4
  ·have e1:l=1:=by omega
   subst e1;rw[if_pos rfl] at q;walk_at "wd";rename_i H3 z3;rw[mn];exact q _ z3
end
def Dv (h:dD (v4 i)=true):0<=i:=by
 have h:(decide (0<=i)&&decide (i<=1000000000))=true:=h;exact (by simpa using h:0<=i/\i<=1000000000).1
def yK {sp p:Addr}{cs:List Int}(r:Rw)(hb0:aC r)(hφ:∀ j,0<=j->φ j=v4 j) (hk:3<=k) (hr:r.ok) (hx:0<=x.l) (hs0:0<=x.s) (hl:cs.length=N) (z:Sep (tu sp r.tl::ak d x::pt p (wn (cs.map φ))::O) H)
  (q:∀ td H',Sep (pt td (wp (cf x cs (a7 N) r).tl)::tu sp r.tl::ak d ((cf x cs (a7 N) r).bx x)::pt p (wn (((cf x cs (a7 N) r).cs cs).map φ))::O) H'->Q (ut td) H'):ab tab R k 101 [ut sp,ut d,ut p] H Q E:=by
 delta i8;have z0:=z;right;rw[ci,hl];cases r with
 |lg w=>
  refine cC (.lg w) hb0 nofun (λb e=>by cases e) z0 (λhb H1 z1=>?_) (λdd c hb t H1 z1=>?_)
  ·right;refine bg ?_;left;refine aw rfl ?_;right;rename_i tp H2 z2;refine pq (aS.of z2.at) rfl rfl ?_;left;refine aw (by cases w<;>decide+kernel) ?_;right;refine aw (by cases w<;>decide+kernel) ?_;right;refine aw (by cases w<;>decide+kernel) ?_;right;refine xZ w hb0 hφ (O:=tu sp (Rw.tl (.lg w))::O) nofun hx hs0 (by rw[aG];exact hl) hb (z2.sub (by ac_nf)) ?_;have q:∀ td H',Sep (pt td (wp (ofM (ck w x cs (a7 N))).tl)::tu sp (Rw.tl (.lg w))::ak d ((ofM (ck w x cs (a7 N))).bx x)::pt p (wn (((ofM (ck w x cs (a7 N))).cs cs).map φ))::O) H'->Q (ut td) H':=q
   revert q
   cases ck w x cs (a7 N) with
   |no dd c=>exact λ_=>True.intro
   |on n x' cs'=>
    intro q H3 z3;right;rename_i t H4 z4;exact q t H4 (z4.sub (.cons .e (.cons .k2 .refl)))
  ·have e:cf x cs (a7 N) (.lg w)=.no dd c:=congrArg ofM (Hw hx hb);rw[e] at q;right;refine bg ?_;left;refine aN rfl ?_;left;exact q t H1 z1
 |hop n o=>
  refine cC (.hop n o) hb0 nofun (λb e=>by cases e) z0 (λhb H1 z1=>?_) (λdd c hb t H1 z1=>by cases hb);right;refine bg ?_;left;refine aw rfl ?_;right;rename_i tp H2 z2;refine pq (aS.of z2.at) rfl rfl ?_;left;refine aw (by decide+kernel) ?_;right
  repeat walk_at "sc"
  have hn:∀ c:Bool,pL n (b2i c):=λc=>by cases c<;>(unfold pL b2i;have:=hr.1;omega)
  refine iz ?_;cases o with
  |none=>
   left;refine aN rfl ?_;right;refine nG ?_;left;refine ⟨hn true,?_⟩;right;rename_i t H4 z4;have e:1+n*b2i true=1+n:=by rw[show b2i true=1 from rfl,Int.mul_one]
   rw[e] at z4;exact q t H4 (z4.sub (.cons .e (.drop .refl)))
  |some i=>
   left;refine aw rfl ?_;right;refine oY (n:=.m) z2 (by symm) ?_;right;refine nG ?_;left;refine ⟨hn _,?_⟩;right;rename_i t H4 z4;have e:1+n*b2i (kQ (oV (some i)) (v4 (x.g Bn.m)))=if i=x.m then 1+n else 1:=by
    show 1+n*b2i (i ==x.m)=_
    by_cases h:i=x.m
    ·rw[if_pos h,show (i ==x.m)=true by simpa using h,show b2i true=1 from rfl,Int.mul_one]
    ·rw[if_neg h,show (i ==x.m)=false by simpa using h,show b2i false=0 from rfl,Int.mul_zero,Int.add_zero]
   rw[e] at z4;exact q t H4 (z4.sub (.cons .e (.drop .refl)))
 |sp s=>
  have q:∀ td H',Sep (pt td (wp (g5 (gc x cs (a7 N) s)).tl)::tu sp s.tl::ak d ((g5 (gc x cs (a7 N) s)).bx x)::pt p (wn (((g5 (gc x cs (a7 N) s)).cs cs).map φ))::O) H'->Q (ut td) H':=q;cases s with
  |set n i=>
   have q:∀ td H',Sep (pt td (wp (g5 (ba x cs n i)).tl)::tu sp (Sp.tl (.set n i))::ak d ((g5 (ba x cs n i)).bx x)::pt p (wn (((g5 (ba x cs n i)).cs cs).map φ))::O) H'->Q (ut td) H':=q;refine cC (.sp (.set n i)) hb0 nofun (λb e=>by cases e) z0 (λhb H1 z1=>?_) (λdd c hb t H1 z1=>by cases hb);right;refine bg ?_;left;refine aw rfl ?_;right;rename_i tp H2 z2;refine pq (aS.of z2.at) rfl rfl ?_;left;refine aN (by decide+kernel) ?_;right
   repeat walk_at "sc"
   refine nh (n:=n) (i:=i) nofun ?_;cases hf:a9 n (i) with
   |false=>
    rw[ba,if_neg (by rw[hf];exact Bool.false_ne_true)] at q;right;rename_i td H3 z3;exact q td H3 (z3.sub (.cons .e (.drop .refl)))
   |true=>
    rw[ba,if_pos hf] at q;right;refine E9 (n:=n) (i:=i) z2 (by ac_rfl) (λH3 z3=>?_);right;rename_i td H4 z4;exact q td H4 (z4.sub (.cons .e (.drop .refl)))
  |add n i=>
   have q:∀ td H',Sep (pt td (wp (g5 (ba x cs n (x.g n+i))).tl)::tu sp (Sp.tl (.add n i))::ak d ((g5 (ba x cs n (x.g n+i))).bx x)::pt p (wn (((g5 (ba x cs n (x.g n+i))).cs cs).map φ))::O) H'->Q (ut td) H':=q;refine cC (.sp (.add n i)) hb0 nofun (λb e=>by cases e) z0 (λhb H1 z1=>?_) (λdd c hb t H1 z1=>by cases hb);right;refine bg ?_;left;refine aw rfl ?_;right;rename_i tp H2 z2;refine pq (aS.of z2.at) rfl rfl ?_;left;refine aN (by decide+kernel) ?_;right
   repeat walk_at "sc"
   refine oY (n:=n) z2 (by symm) ?_;right
   repeat walk_at "sc"
   refine nh (n:=n) (i:=x.g n+i) nofun ?_;cases hf:a9 n (x.g n+i) with
   |false=>
    rw[ba,if_neg (by rw[hf];exact Bool.false_ne_true)] at q;right;rename_i td H3 z3;exact q td H3 (z3.sub (.cons .e (.drop .refl)))
   |true=>
    rw[ba,if_pos hf] at q;right;refine E9 (n:=n) (i:=x.g n+i) z2 (by ac_rfl) (λH3 z3=>?_);right;rename_i td H4 z4;exact q td H4 (z4.sub (.cons .e (.drop .refl)))
  |take n m=>
   have q:∀ td H',Sep (pt td (wp (g5 (ba x cs n (x.g m))).tl)::tu sp (Sp.tl (.take n m))::ak d ((g5 (ba x cs n (x.g m))).bx x)::pt p (wn (((g5 (ba x cs n (x.g m))).cs cs).map φ))::O) H'->Q (ut td) H':=q;refine cC (.sp (.take n m)) hb0 nofun (λb e=>by cases e) z0 (λhb H1 z1=>?_) (λdd c hb t H1 z1=>by cases hb);right;refine bg ?_;left;refine aw rfl ?_;right;rename_i tp H2 z2;refine pq (aS.of z2.at) rfl rfl ?_;left;refine aN (by decide+kernel) ?_;right
   repeat walk_at "sc"
   refine oY (n:=m) z2 (by symm) ?_;right
   repeat walk_at "sc"
   refine nh (n:=n) (i:=x.g m) nofun ?_;cases hf:a9 n (x.g m) with
   |false=>
    rw[ba,if_neg (by rw[hf];exact Bool.false_ne_true)] at q;right;rename_i td H3 z3;exact q td H3 (z3.sub (.cons .e (.drop .refl)))
   |true=>
    rw[ba,if_pos hf] at q;right;refine E9 (n:=n) (i:=x.g m) z2 (by ac_rfl) (λH3 z3=>?_);right;rename_i td H4 z4;exact q td H4 (z4.sub (.cons .e (.drop .refl)))
  |read n=>exact hb0.elim
  |write n=>
   have q:∀ td H',Sep (pt td (wp (g5 (if dD (v4 (x.g n))=true then (if ai (a7 N) "put" x.t=true then .on x (cs.set x.t.toNat (x.g n)) else .no "put" x.t) else .nf n (x.g n))).tl)::tu sp (Sp.tl (.write n))::ak d ((g5 (if dD (v4 (x.g n))=true then (if ai (a7 N) "put" x.t=true then .on x (cs.set x.t.toNat (x.g n)) else .no "put" x.t) else .nf n (x.g n))).bx x)::pt p (wn (((g5 (if dD (v4 (x.g n))=true then (if ai (a7 N) "put" x.t=true then .on x (cs.set x.t.toNat (x.g n)) else .no "put" x.t) else .nf n (x.g n))).cs cs).map φ))::O) H'->Q (ut td) H':=q;cases hc:dD (v4 (x.g n)) with
   |false=>
    rw[if_neg (nt hc)] at q;refine tB nofun hc z0 (λt H1 z1=>?_);right;refine bg ?_;left;refine aN rfl ?_;left;exact q t H1 z1
   |true=>
    rw[if_pos hc] at q;refine cC (.sp (.write n)) hb0 nofun (λb e=>by cases e;exact hc) z0 (λhb H1 z1=>?_) (λdd c hb t H1 z1=>?_)
    ·have hm:ai (a7 N) "put" x.t=true:=(aX (pY hb).2).1;have g:=au hm;rw[if_pos hm] at q;right;refine bg ?_;left;refine aw rfl ?_;right;rename_i tp H2 z2;refine pq (aS.of z2.at) rfl rfl ?_;left;refine aw (by decide+kernel) ?_;right
     repeat walk_at "sc"
     refine oY (n:=n) z2 (by symm) ?_;right;refine oY (n:=.t) z2 (by symm) ?_;left;refine dO (i:=x.t) (ys:=(cs.set x.t.toNat (x.g n)).map φ) z2 (by ac_rfl) (eX g.1 (by rw[ci];rw[aG] at g;omega)) (by rw[List.map_set,hφ _ (Dv hc)]) (λH3 z3=>?_);right;rename_i td H4 z4;exact q td H4 (z4.sub (.cons .e (.drop .refl)))
    ·have hm:ai (a7 N) "put" x.t=false/\dd="put"/\c=x.t:=by
      cases e:ai (a7 N) "put" x.t with
      |true=>rw[show cL (a7 N) (DW x (.sp (.write n))) (Er x (.sp (.write n)))=none by show cL (a7 N) [] [x.t]=none;unfold cL bj;dsimp only;unfold bj;rw[if_pos e]] at hb;cases hb
      |false=>
       rw[show cL (a7 N) (DW x (.sp (.write n))) (Er x (.sp (.write n)))=some (("put":Str),x.t) by show cL (a7 N) [] [x.t]=_;unfold cL bj;dsimp only;unfold bj;rw[if_neg (nt e)]] at hb;cases hb;exact ⟨rfl,rfl,rfl⟩
     obtain ⟨e1,rfl,rfl⟩:=hm;rw[if_neg (nt e1)] at q;right;refine bg ?_;left;refine aN rfl ?_;left;exact q t H1 z1
def xM {cs:List Int}{d:Str}(h:ck wd x cs ws=.no d c):d="look"\/d="put":=by
 revert h
 exact zZ (P:=λo=>o=.no d c->_) (λ_ _ e=>by cases e) (λ_ _ h e=>by cases e;exact h) (λ_ _ _ _ _ e=>by cases e)
def vR {cs:List Int}{d:Str}(h:cf x cs ws r=.no d c):d="look"\/d="put":=by
 have gv:∀ {b:Bn}{i:Int},g5 (ba x cs b i)≠.no d c:=λ{b i} e=>by
  unfold ba at e
  split at e<;>cases e
 cases r with
 |lg w=>
  have h:ofM (ck w x cs ws)=.no d c:=h;cases e:ck w x cs ws with
  |on r x' cs'=>rw[e] at h;cases h
  |no d' c'=>rw[e] at h;cases h;exact xM e
 |hop n o=>cases h
 |sp s=>
  cases s with
  |set n i=>exact absurd h gv
  |add n i=>exact absurd h gv
  |take n m=>exact absurd h gv
  |read n=>
   have h:g5 (if ai ws "look" x.h=true then ba x cs n (gt cs x.h) else .no "look" x.h)=.no d c:=h
   split at h
   ·exact absurd h gv
   ·cases h;exact .inl rfl
  |write n=>
   have h:g5 (if dD (v4 (x.g n))=true then (if ai ws "put" x.t=true then .on x (cs.set x.t.toNat (x.g n)) else .no "put" x.t) else .nf n (x.g n))=.no d c:=h
   split at h
   ·split at h
    ·cases h
    ·cases h;exact .inr rfl
   ·cases h
abbrev cw (O:List aq)(ss:List V)(rs:List Rw):Prop:=ss.length=rs.length/\(∀ r ∈ rs,r.ok)/\∀ (i:Nat) (r:Rw),rs[i]? =some r->∃ t Δ,ss[i]? =some (ut t)/\af (tu t r.tl) O Δ
def cw.more (h:cw O ss rs):cw (A::O) ss rs:=⟨h.1,h.2.1,λi r e=>by
 obtain ⟨a,Δ,e2,p⟩:=h.2.2 i r e;exact ⟨a,_,e2,.t p⟩⟩
abbrev fU (φ:Int->V)(p:Sh):aq:=bx λq:Addr×Addr=>[tu p.1 [ut q.1,ut q.2],tu q.1 (p.2.1.ls.map v4),pt q.2 (wn (p.2.2.map φ))]
def CL (z:Sep (fU φ p::O) H):∃ b l,Sep (tu p.1 [ut b,ut l]::tu b (p.2.1.ls.map v4)::pt l (wn (p.2.2.map φ))::O) H:=by
 obtain ⟨⟨b,l⟩,z⟩:=fw z;exact ⟨b,l,z⟩
def Kb {t b l:Addr}{cs:List Int}(z:Sep (tu t [ut b,ut l]::tu b (x.ls.map v4)::pt l (wn (cs.map φ))::O) H):Sep (fU φ (t,x,cs)::O) H:=gf (b,l) z
section
variable {φ:Int->V}{SP d0 p0 d p T:Addr}{ss:List V}{rs:List Rw}{x x0:Bx}{cs:List Int}{N:Nat}{L:List (Bx×List Int)}{Δ1 Δ2 Δ3:List aq}
abbrev Kc (φ:Int->V)(SP d0 d p T:Addr)(N:Nat)(rs:List Rw)(L:List (Bx×List Int))(O:List aq)(n:Nat)(U:St)(H:Hp):Prop:=∃ (a:Int) (x:Bx) (cs:List Int) (S:List Sh) (P L1:List (Bx×List Int)) (u:Option V),0<=a/\x.ok/\cs.length=N/\n=L1.length/\Tr rs (a7 N) (min a (rs.length:Int)) x cs L1/\S.map (·.2)=P++[(x,cs)]/\P++L1=L/\U=[some (ut SP),some (ut d0),some (ut p),some (ut d),some (v4 a),some (ut T),u]/\Sep (ak d x::pt p (wn (cs.map φ))::pt T (wn (S.map dP))::(S.reverse.map (fU φ)++O)) H
def vt {t:Addr}(z:Sep (pt t (BU true ((rH.zip (x.ls.map v4)).map (·.2)))::O) H):Sep (tu t (x.ls.map v4)::O) H:=by
 rw[Am] at z;exact Sep.toT z
def cw.app {L:List aq}(h:cw O ss rs):cw (L++O) ss rs:=⟨h.1,h.2.1,λi r e=>by
 obtain ⟨a,Δ,e2,p⟩:=h.2.2 i r e;exact ⟨a,_,e2,aa p⟩⟩
def Fe (hφ:∀ j,0<=j->φ j=v4 j) (hk:4<=k) (hb:∀ r ∈ rs,aC r) (n60:N<=60) (hx:x.ok) (hc:cs.length=N) (hs:cw O ss rs) (hT:Tr rs (a7 N) 0 x cs L) (hL:L.length<=1601) (z:Sep O H) (p1:af (pt SP (wn ss)) O Δ1) (p2:af (ak d0 x) O Δ2) (p3:af (pt p0 (wn (cs.map φ))) O Δ3)
  (q:∀ T (S:List Sh) H',S.map (·.2)=L->Sep (pt T (wn (S.map dP))::(S.reverse.map (fU φ)++O)) H'->Q (ut T) H'):ab tab R k 105 [ut SP,ut d0,ut p0] H Q E:=by
 delta kX;have w60:(a7 N).length<=60:=by rw[aG];exact n60
 left;refine uK (kvs:=rH.zip (x.ls.map v4)) z (z.get p2) (λd H1 z1=>?_);have z1:Sep (ak d x::O) H1:=z1;left;refine dw z1 (z1.get (.t p3)) (λp H2 z2=>?_);right;refine uu (tp:=true) (kvs:=rH.zip (x.ls.map v4)) z2 (z2.get .k1) (λt1 H3 z3=>?_);have z3:=vt z3;left;refine dw z3 (z3.get .k1) (λl1 H4 z4=>?_);left;refine aY z4 (ol rfl) (λt2 H5 z5=>?_);left;refine iI z5.toT (ol rfl) (λT H6 z6=>?_);have z6a:Sep (fU φ (t2,x,cs)::pt T (wn [ut t2])::pt p (wn (cs.map φ))::ak d x::O) H6:=Kb (b:=t1) (l:=l1) (z6.sub (by ac_nf));have z7:Sep (ak d x::pt p (wn (cs.map φ))::pt T (wn [ut t2])::fU φ (t2,x,cs)::O) H6:=z6a.sub (by ac_nf);clear z z1 z2 z3 z4 z5 z6 z6a;left;refine ⟨Kc φ SP d0 d p T N rs L O,⟨L.length,0,x,cs,[(t2,x,cs)],[],L,none,by decide,hx,hc,rfl,by rw[show min 0 (rs.length:Int)=0 by omega];exact hT,rfl,rfl,rfl,z7⟩,?_⟩;clear z7;rintro n U H ⟨a,x1,cs1,S,P,L1,u,a0,hx1,hc1,rfl,hT1,hS,hPL,rfl,zz⟩;have hlen:S.length+L1.length=L.length+1:=by
  have e1:=congrArg List.length hS;have e2:=congrArg List.length hPL;rw[ci,cr,ge] at e1;rw[cr] at e2
  omega
 have pS:∀ {A:aq}{Δ:List aq},af A O Δ->∃ Δ',af A (ak d x1::pt p (wn (cs1.map φ))::pt T (wn (S.map dP))::(S.reverse.map (fU φ)++O)) Δ':=λh=>⟨_,.t (.j2 (aa h))⟩
 obtain ⟨_,q1⟩:=pS p1;have fin:∀ {H':Hp},L1=[(x1,cs1)]->Sep (ak d x1::pt p (wn (cs1.map φ))::pt T (wn (S.map dP))::(S.reverse.map (fU φ)++O)) H'->Q (ut T) H':=λe z=>by
  subst e;exact q T S _ (hS.trans hPL) z.drop.drop
 left;refine aO (zz.get q1) ?_;left;rw[hs.1];refine aA (λha=>?_) (λha=>?_)
 ·have hr:a.toNat<rs.length:=by omega
  have er:rs[a.toNat]? =some rs[a.toNat]:=li hr;generalize rs[a.toNat]=r at er;obtain ⟨sp,Δ',e2,pp⟩:=hs.2.2 _ _ er;obtain ⟨_,q2⟩:=pS pp;have zt:=Sep.Fo (zz.bT q2) zz;have rb:=hb r (db er);refine ⟨λσ' H'=>∃ m',m'<L1.length/\Kc φ SP d0 d p T N rs L O m' σ' H',λσ' H' h=>h,?_⟩;left;refine ⟨rfl,?_⟩;refine aJ (zz.get q1) (aF a0 e2) ?_;left;refine yK r rb hφ nofun (hs.2.1 r (db er)) hx1.2.2.1.1 hx1.2.2.2.2.1.1 hc1 zt (λtd H2 z2=>?_);have hm:mS rs (min a (rs.length:Int)) x1 cs1 (a7 N)=(match cf x1 cs1 (a7 N) r with| .on n x' cs'=>⟨"on",min (a+n) (rs.length:Int),x',cs'⟩|_=>⟨"stop",a,x1,cs1⟩):=by
   rw[show min a (rs.length:Int)=a by omega];unfold mS;rw[er]
   all_goals (dsimp only;cases cf x1 cs1 (a7 N) r<;>rfl)
  have hok:=λn x' cs'=>uq (r:=r) (n:=n) (x':=x') (cs:=cs1) (cs':=cs') rb hx1 w60
  have hkp:=λn x' cs'=>my (r:=r) (n:=n) (x':=x') (cs:=cs1) (ws:=a7 N) (cs':=cs') hx1.2.2.1.1
  have hwd:=λdd c=>vR (x:=x1) (cs:=cs1) (ws:=a7 N) (r:=r) (d:=dd) (c:=c)
  have hn0:=λn x' cs'=>vy (x:=x1) (cs:=cs1) (ws:=a7 N) (n:=n) (x':=x') (cs':=cs') (hs.2.1 r (db er))
  clear zt zz
  revert z2 hm hok hkp hwd hn0
  cases cf x1 cs1 (a7 N) r with
  |on n x' cs'=>
   intro z2 hm hok hkp hwd hn0;have z2:Sep (pt td (wp [wf "on",v4 n,v4 0])::tu sp r.tl::ak d x'::pt p (wn (cs'.map φ))::pt T (wn (S.map dP))::(S.reverse.map (fU φ)++O)) H2:=z2;have hn:=hn0 n x' cs' rfl;obtain ⟨L2,hT2,rfl⟩:∃ L2,Tr rs (a7 N) (min (a+n) (rs.length:Int)) x' cs' L2/\L1=(x1,cs1)::L2:=by
    cases hT1 with
    |stop h=>rw[hm] at h;exact absurd rfl h
    |on h t=>rw[hm] at t;exact ⟨_,t,rfl⟩
   rw[length_cons] at hlen;right;refine ⟨T,_,rfl,z2.get (.t .k3),?_⟩;left;refine ⟨rfl,?_⟩;refine uu (tp:=true) (kvs:=rH.zip (x'.ls.map v4)) z2 (z2.get .k2) (λt3 H3 z3=>?_);have z3:=vt z3;left;refine dw z3 (z3.get (.t .k3)) (λl3 H4 z4=>?_);left;refine aY z4 (ol rfl) (λt4 H5 z5=>?_);left;refine ⟨_,z5.get (.j2 (.j2 .k3)),vn z5.toT (.j2 (.j2 .k3)) (by rw[ci];omega) (λH6 z6=>?_)⟩;refine ⟨L2.length,by rw[length_cons];omega,a+n,x',cs',S++[(t4,x',cs')],P++[(x1,cs1)],L2,_,by omega,hok n x' cs' rfl,by rw[(hkp n x' cs' rfl).2];exact hc1,rfl,hT2,by rw[f8,hS];rfl,by rw[le];exact hPL,rfl,?_⟩;rw[reverse_append,f8,f8,le];have z8:Sep (fU φ (t4,x',cs')::ak d x'::pt p (wn (cs'.map φ))::pt T (wn (S.map dP++[ut t4]))::(S.reverse.map (fU φ)++O)) H6:=Kb (b:=t3) (l:=l3) (z6.sub (by ac_nf));show Sep (ak d x'::pt p (wn (cs'.map φ))::pt T (wn (S.map dP++[ut t4]))::fU φ (t4,x',cs')::(S.reverse.map (fU φ)++O)) H6;exact z8.sub (by ac_nf)
  |no dd c=>
   intro z2 hm hok hkp hwd hn0;have z2:Sep (pt td (wp [wf dd,v4 c,v4 0])::tu sp r.tl::ak d x1::pt p (wn (cs1.map φ))::pt T (wn (S.map dP))::(S.reverse.map (fU φ)++O)) H2:=z2;have hL1:L1=[(x1,cs1)]:=by
    cases hT1 with
    |stop h=>rfl
    |on h t=>rw[hm] at h;exact absurd h jO
   have hne:kQ (wf dd) (wf "on")=false:=by rcases hwd dd c rfl with rfl|rfl<;>decide+kernel
   right;rw[hne];right;exact fin hL1 z2.drop.drop
  |nf bb i=>
   intro z2 hm hok hkp hwd hn0;have z2:Sep (pt td (wp [wf "fit",wf bb.nm,v4 i])::tu sp r.tl::ak d x1::pt p (wn (cs1.map φ))::pt T (wn (S.map dP))::(S.reverse.map (fU φ)++O)) H2:=z2;have hL1:L1=[(x1,cs1)]:=by
    cases hT1 with
    |stop h=>rfl
    |on h t=>rw[hm] at h;exact absurd h jO
   right;exact fin hL1 z2.drop.drop
 ·have hL1:L1=[(x1,cs1)]:=by
   cases hT1 with
   |stop h=>rfl
   |on h t=>
    rw[show mS rs (min a (rs.length:Int)) x1 cs1 (a7 N)=⟨"end",min a (rs.length:Int),x1,cs1⟩ by
     unfold mS;rw[getElem?_eq_none nofun]] at h
    exact absurd h za
  right;exact fin hL1 zz
end
abbrev bK (p:Addr×Rw):V:=ut p.1
abbrev rq (R:Rt)(p:Addr×Rw):aq:=lj R p.1 p.2
abbrev il (p:Addr×Rw):aq:=tu p.1 p.2.tl
def mU {L:List (Addr×Rw)}(h:L.map (·.2)=rs):cb R (L.reverse.map (rq R)++O) (L.map bK) rs:=by
 subst h;refine ⟨by simp,λi r e=>?_⟩;rw[io] at e;obtain ⟨⟨a,r'⟩,g,rfl⟩:=nb.mp e;obtain ⟨Δ,hp⟩:=aR (f:=rq R) (x:=(a,r')) (l:=L.reverse) (by have:=db g;simpa using this);exact ⟨a,_,by rw[io,g];rfl,hp O⟩
abbrev ev (cs:List Int)(j:Int):Int:=if j<0 then gt cs (-1-j) else j
def Hx {cs:List Int}:∀ j,0<=j->ev cs j=j:=λj h=>if_neg nofun
section
variable {C T1 T2 t:Addr}{cs:List Int}{j:Int}
end
def G8 {r:Int}(h0:0<=r)(h1:r<6):∃ wd:Wd,j7 [wf "copy",wf "fill",wf "copy",wf "turn",wf "shift",wf "turn"] r=some (wf wd.s)/\aL (.lg wd)=false:=by
 have:r=0\/r=1\/r=2\/r=3\/r=4\/r=5:=by omega
 rcases this with rfl|rfl|rfl|rfl|rfl|rfl
 ·exact ⟨.copy,rfl,rfl⟩
 ·exact ⟨.fill,rfl,rfl⟩
 ·exact ⟨.copy,rfl,rfl⟩
 ·exact ⟨.turn,rfl,rfl⟩
 ·exact ⟨.shift,rfl,rfl⟩
 ·exact ⟨.turn,rfl,rfl⟩
def qD {sz:Int}(hk:2<=k)(s:Sep (hand h m::O) H)(hm:m<=1099510000000)(h0:0<=sz)(h1:sz<=60)(q:∀ t r H',Rw.ok r->aL r=false->Sep (tu t r.tl::hand h (m+10)::O) H'->Q (ut t) H'):ab tab R k 96 [ut h,v4 sz] H Q E:=by
 delta i5;walk_at "gd";rename_i wy H1 wy0 wy1 hs1 p1 H2 hs2 r2 H3 r20 r21 hs3;obtain ⟨b,e2⟩:=En r20 r21;refine aJ (by grind) e2 ?_;clear s hs1 hs2;right;refine aA (λg0=>?_) (λg0=>?_)
 ·right;rename_i l4 H4 hs4;obtain ⟨wd,e3,hb⟩:=G8 wy0 g0;refine aJ (by grind) e3 ?_;right;rename_i t H5 hs5;have z6:Sep (tu t (Rw.tl (.lg wd))::_) _:=hs5.toT;exact q t (.lg wd) _ True.intro hb ((aj (n:=m+10) (z6.pull (A:=hand h _) (by symm)) nofun).sub (by ac_nf))
 right;refine aA (λg1=>?_) (λg1=>?_)
 ·walk_at "gd";rename_i l4 H4 hs4 r5 H5 r50 r51 hs5;obtain ⟨v,e3,b3,rfl⟩:=cZ (P:=vC) (xs:=[wf "here",wf "there",wf "left",wf b.nm]) (r:=r5) r50 (by simpa using r51) (LB ⟨.h,rfl⟩ ⟨.t,rfl⟩ ⟨.l,rfl⟩ ⟨b,rfl⟩);refine aJ (by grind) e3 ?_;walk_at "gd";rename_i r6 H6 r60 r61 hs6 r7 H7 r70 r71 hs7 r8 H8 r80 r81 hs8 r9 H9 r90 r91 hs9 l10 H10 hs10;obtain ⟨v,e4,i,rfl,i0,i1⟩:=cZ (xs:=[v4 r7,v4 (r8-2),v4 (10 ^ Int.toNat 9-r9)]) (P:=inR (-1000000000) 1000000000) (r:=r6 / 3) nofun (by simp;omega) (JR (.mk nofun nofun) (.mk nofun nofun) (.mk (by rw[ff];omega) (by rw[ff];omega)));refine aJ (by grind) e4 ?_;right;rename_i t H11 hs11;have z6:Sep (tu t (Rw.tl (.sp (.set b3 i)))::_) _:=hs11.toT;exact q t (.sp (.set b3 i)) _ ⟨i0,i1⟩ rfl ((aj (n:=m+10) (z6.pull (A:=hand h _) (by symm)) nofun).sub (by ac_nf))
 right;refine az (λg2=>?_) (λg2=>?_)
 ·walk_at "gd";rename_i r6 H6 r60 r61 hs6 r7 H7 r70 r71 hs7 r8 H8 r80 r81 hs8 l10 H10 hs10;obtain ⟨v,e4,i,rfl,i0,i1⟩:=cZ (xs:=[v4 (r7-3),v4 r8,v4 (-(10 ^ Int.toNat 9))]) (P:=inR (-1000000000) 1000000000) (r:=r6 / 3) nofun (by simp;omega) (JR (.mk nofun nofun) (.mk nofun nofun) (.mk (by rw[ff];omega) (by rw[ff];omega)));refine aJ (by grind) e4 ?_;right;rename_i t H11 hs11;have z6:Sep (tu t (Rw.tl (.sp (.add b i)))::_) _:=hs11.toT;exact q t (.sp (.add b i)) _ ⟨i0,i1⟩ rfl ((aj (n:=m+10) (z6.pull (A:=hand h _) (by symm)) nofun).sub (by ac_nf))
 right;refine az (λg3=>?_) (λg3=>?_)
 ·walk_at "gd";rename_i r6 H6 r60 r61 hs6;obtain ⟨c,e3⟩:=En r60 r61;refine aJ (by grind) e3 ?_;right;rename_i t H11 hs11;have z6:Sep (tu t (Rw.tl (.sp (.take b c)))::_) _:=hs11.toT;exact q t (.sp (.take b c)) _ True.intro rfl ((aj (n:=m+10) (z6.pull (A:=hand h _) (by symm)) nofun).sub (by ac_nf))
 right;refine aA (λg4=>?_) (λg4=>?_)
 ·right;rename_i t H11 hs11;have z6:Sep (tu t (Rw.tl (.sp (.write b)))::_) _:=hs11.toT;exact q t (.sp (.write b)) _ True.intro rfl ((aj (n:=m+10) (z6.pull (A:=hand h _) (by symm)) nofun).sub (by ac_nf))
 walk_at "gd";rename_i r6 H6 r60 r61 hs6 l7 H7 hs7 r8 H8 r80 r81 hs8;obtain ⟨o,e3,ho⟩:=Gu r80 r81;refine aJ (by grind) e3 ?_;right;rename_i t H11 hs11;have z6:Sep (tu t (Rw.tl (.hop r6 o))::_) _:=hs11.toT;exact q t (.hop r6 o) _ ⟨⟨by omega,by omega⟩,ho⟩ rfl ((aj (n:=m+10) (z6.pull (A:=hand h _) (by symm)) nofun).sub (by ac_nf))
def xQ {t:Addr}(r:Rw)(ro:Ro K R)(hk:5<=k)(ok:r.ok)(hb:aL r=false)(z:Sep (tu t r.tl::O) H)(q:∀ d H',Sep (lj R d r::tu t r.tl::O) H'->Q (ut d) H'):ab tab R k 97 [ut t] H Q E:=by
 delta iX;cases r with
 |lg w=>
  cases w with
  |seek=>cases hb
  |mtch=>cases hb
  |copy=>
   right
   repeat walk_at "sc"
   exact Cw z (λd dx H2 z2=>q d H2 (Bj z2))
  |fill=>
   right
   repeat walk_at "sc"
   exact Cw z (λd dx H2 z2=>q d H2 (Bj z2))
  |shift=>
   right
   repeat walk_at "sc"
   exact Cw z (λd dx H2 z2=>q d H2 (Bj z2))
  |turn=>
   right
   repeat walk_at "sc"
   exact Cw z (λd dx H2 z2=>q d H2 (Bj z2))
 |hop n o=>
  right
  repeat walk_at "sc"
  intro d dx g1 g2 g3;exact IZ ro nofun ok.1.1 ok.1.2 ok.2 (jA z g1 g2 g3) (λH2 z2=>⟨rfl,q d H2 z2⟩)
 |sp s=>
  cases s with
  |set n i=>
   right
   repeat walk_at "sc"
   intro d dx g1 g2 g3;exact IC ro nofun ok.1 ok.2 (jA z g1 g2 g3) (λH2 z2=>⟨rfl,q d H2 z2⟩)
  |add n i=>
   right
   repeat walk_at "sc"
   intro d dx g1 g2 g3;exact HU ro nofun ok.1 ok.2 (jA z g1 g2 g3) (λH2 z2=>⟨rfl,q d H2 z2⟩)
  |take n m=>
   right
   repeat walk_at "sc"
   intro d dx g1 g2 g3;exact Jk ro nofun (jA z g1 g2 g3) (λH2 z2=>⟨rfl,q d H2 z2⟩)
  |read n=>cases hb
  |write n=>
   right
   repeat walk_at "sc"
   intro d dx g1 g2 g3;exact Kn ro nofun (jA z g1 g2 g3) (λH2 z2=>⟨rfl,q d H2 z2⟩)
def jL {O:List aq}:∀ {L:List aq},Sub O (L++O)
 | []=>.refl
 |_::_=>.drop jL
section
variable {h:Addr}{m sz:Int}
def qb (hk:3<=k)(hm:m<=1099500000000)(h0:0<=sz)(h1:sz<=60)(z:Sep (hand h m::O) H)
  (q:∀ L (S:List (Addr×Rw)) H',1<=S.length->S.length<=24->(∀ p ∈ S,p.2.ok)->(∀ p ∈ S,aL p.2=false)->Sep (pt L (wn (S.map bK))::hand h (m+300)::(S.reverse.map il++O)) H'->Q (ut L) H'):ab tab R k 103 [ut h,v4 sz] H Q E:=by
 delta ja;walk_at "gd";rename_i l3 H3 z3 r H4 r0 r1 z4;obtain ⟨v,e2,M,rfl,M0,M1⟩:=cZ (xs:=[v4 3,v4 8,v4 8,v4 24]) (P:=inR 1 24) (r:=r) r0 (by simpa using r1) (LB (.mk (by decide) (by decide)) (.mk (by decide) (by decide)) (.mk (by decide) (by decide)) (.mk (by decide) (by decide)));refine aJ (by grind) e2 ?_;walk_at "gd";rename_i r5 H5 r50 r51 z5;have z6:Sep (hand h (m+10)::O) H5:=aj (z5.sub (Γ':=hand h _::O) (by ac_nf)) nofun;clear z z3 z4 z5;refine nM (n:=(1+r5).toNat) nofun (λD ys H=>∃ S:List (Addr×Rw),ys=S.map bK/\(∀ p ∈ S,p.2.ok)/\(∀ p ∈ S,aL p.2=false)/\Sep (pt D (wn ys)::hand h (m+10+10*((ys.length:Nat):Int))::(S.reverse.map il++O)) H) (λD hD=>⟨[],rfl,λp hp=>absurd hp (by simp),λp hp=>absurd hp (by simp),(aj (n:=m+10+10*((([]:List V).length:Nat):Int)) ((z6.new (o:=wn []) hD).pull .k1) (by simp)).pull .k1⟩) (λD ys H hl hI=>?_) (λRW ys H hl hI=>?_)
 ·obtain ⟨S,e,ok,hb,hs⟩:=hI;right;refine qD nofun (hs.pull .k1) nofun nofun nofun (λt r H7 o hr hs7=>?_);have hs9:=(hs7.pull (A:=pt D (wn ys)) (by symm)).set (o':=wn (ys++[ut t])) rfl;refine pA.mk (hs7.get (by symm)) nofun ⟨S++[(t,r)],by rw[e];simp[bK],λp hp=>?_,λp hp=>?_,?_⟩
  ·rcases mem_append.mp hp with hp|hp
   ·exact ok p hp
   ·rw[mem_singleton.mp hp];exact o
  ·rcases mem_append.mp hp with hp|hp
   ·exact hb p hp
   ·rw[mem_singleton.mp hp];exact hr
  ·rw[reverse_append,f8,le];show Sep (pt D _::hand h _::tu t r.tl::(S.reverse.map il++O)) _;exact (aj (n:=m+10+10*(((ys++[ut t]).length:Nat):Int)) (hs9.pull (A:=hand h _) (by symm)) (by rw[cr,ge];omega)).sub (by ac_nf)
 ·obtain ⟨S,rfl,ok,hb,hs⟩:=hI;rw[ci] at hl hs;exact q RW S H nofun nofun ok hb ((aj (n:=m+300) (hs.pull .k1) nofun).pull .k1)
end
def mx {SP:Addr}(ro:Ro K R)(hk:5<=k)(h24:rs.length<=24)(hs:cw O ss rs)(hb:∀ r ∈ rs,aL r=false) (hte:∀ {v:V}{H:Hp}{Q:VK},ab tab R k 97 [v] H Q (λ_ _=>False)->te [some v] H Q) (z:Sep O H) (p:af (pt SP (wn ss)) O Δ)
  (q:∀ RW (D:List (Addr×Rw)) H',D.map (·.2)=rs->Sep (pt RW (wn (D.map bK))::(D.reverse.map (rq R)++O)) H'->Q (ut RW) H'):wa te (BM R.K SP) [none] H Q:=by
 have hl0:=hs.1;refine rS (xs:=ss) nofun (λD ys H=>∃ A:List (Addr×Rw),ys=A.map bK/\A.map (·.2)=rs.take ys.length/\Sep (pt D (wn ys)::(A.reverse.map (rq R)++O)) H) (λD ys H ⟨A,_,_,hI⟩=>bc.of (hI.get (.t (aa p)))) (λD hD=>⟨[],rfl,rfl,z.new (o:=wn []) hD⟩) (λD ys y H hy hI=>?_) (λRW ys H hl hI=>?_)
 ·obtain ⟨A,rfl,eA,zz⟩:=hI;have hyl:=(sK.mp hy).1;have eg:rs[(A.map bK).length]? =some (rs[(A.map bK).length]'nofun):=li _;generalize rs[(A.map bK).length]'nofun=r at eg;obtain ⟨t,Δ',e2,pp⟩:=hs.2.2 _ _ eg;rw[hy] at e2;cases e2;have hm:=db eg;have zt:Sep (tu t r.tl::pt D (wn (A.map bK))::(A.reverse.map (rq R)++O)) H:=Sep.Fo (zz.bT (.t (aa pp))) zz;refine hte (xQ r ro hk (hs.2.1 _ hm) (hb _ hm) zt (λd H2 z2=>?_));have z3:=(z2.pull .k2).set (o':=wn (A.map bK++[ut d])) rfl;refine pA.mk (z2.get .k2) nofun ⟨A++[(d,r)],by rw[f8];rfl,?_,?_⟩
  ·rw[f8,eA,cr,ge,List.take_succ,eg]
   rfl
  ·rw[reverse_append,f8,le];show Sep (pt D _::lj R d r::(A.reverse.map (rq R)++O)) _;exact z3.sub (by ac_nf)
 ·obtain ⟨A,rfl,eA,zz⟩:=hI;refine q RW A H ?_ zz;rw[eA,hl,hl0,List.take_length]
def GG {cs:List Int}:(en cs.length).map (ev cs)=cs:=by
 refine List.ext_getElem? λi=>?_
 unfold en;rw[io,io]
 by_cases h:i<cs.length
 ·rw[List.getElem?_range h];show some (ev cs (-1-(i:Int)))=_;unfold ev gt;rw[if_pos nofun,show (-1-(-1-(i:Int))).toNat=i by omega,li h]
  rfl
 ·rw[getElem?_eq_none (by rw[length_range];omega),getElem?_eq_none nofun]
  rfl
variable {L:List (Bx×List Int)}
def Tr.near (hb:∀ r ∈ rs,aC r) (n60:N<=60) (hx:x.ok) (h:Tr rs (a7 N) 0 x (en N) L):∀ p ∈ L,p.2.length<=60/\∀ j ∈ p.2,j<0-> -1-j<(N:Int):=by
 have w60:(a7 N).length<=60:=by rw[aG];exact n60
 have hl:(en N).length=(a7 N).length:=by rw[dJ,aG]
 have h2:=Tr.map (f:=λj=>if j< -(N:Int) then 0 else j) (λj hj=>if_neg nofun) hb w60 h hx hl;have e0:(en N).map (λj=>if j< -(N:Int) then 0 else j)=en N:=by
  refine (List.map_congr_left (g:=id) λj hj=>?_).trans (List.map_id _);unfold en at hj;obtain ⟨i,hi,rfl⟩:=List.mem_map.mp hj;rw[mem_range] at hi;exact if_neg nofun
 rw[e0] at h2;have e1:=h.det h2;refine λp hp=>⟨Tr.all (P:=λp=>p.2.length<=60) hb w60 (λx cs _ e=>by dsimp only;omega) h hx hl p hp,λj hj hn=>?_⟩
 obtain ⟨i,hi⟩:=getElem?_of_mem hp;have e2:(L.map (xw λj=>if j< -(N:Int) then 0 else j))[i]? =some p:=by rw[<-e1];exact hi
 rw[io,hi] at e2;have e3:p.2.map (λj=>if j< -(N:Int) then 0 else j)=p.2:=congrArg Prod.snd (Option.some.inj e2);have e4:(if j< -(N:Int) then 0 else j)=j:=by
  obtain ⟨n,hn⟩:=getElem?_of_mem hj;have e5:(p.2.map λj=>if j< -(N:Int) then 0 else j)[n]? =some j:=by rw[e3];exact hn
  rw[io,hn] at e5;exact Option.some.inj e5
 split at e4
 ·omega
 ·omega
def zg {j:Int}:∃ w i,xx j=[wf w,v4 i]:=by
 unfold xx
 split<;>exact ⟨_,_,rfl⟩
abbrev Hf (H:Hp)(p:Sh):Prop:=∃ b l vs,H p.1=some (wp [ut b,ut l])/\H b=some (wp (p.2.1.ls.map v4))/\H l=some (wn vs)/\vs.length=p.2.2.length/\∀ (i:Nat) v j,vs[i]? =some v->p.2.2[i]? =some j->wz v j H
def D7 (z:Sep O H)(h:af (k9 p) O Δ):Hf H p:=by
 obtain ⟨b,l,vs,z⟩:=Hk (z.pull h);have o:=cV.of (z.pull .k3);exact ⟨b,l,vs,z.atT,z.bT .k1,z.get .k2,o.1,o.2⟩
abbrev AG (rs:List Rw)(ws:List Str):Nat->Int->Bx->List Int->Bx×List Int
 |0,_,x,cs=>(x,cs)
 |n+1,at_,x,cs=>AG rs ws n (mS rs at_ x cs ws).at_ (mS rs at_ x cs ws).x (mS rs at_ x cs ws).cs
section
variable {rs:List Rw}{ws:List Str}{at_:Int}{x:Bx}{cs:List Int}{L:List (Bx×List Int)}
def DL (h:(mS rs at_ x cs ws).w≠"on"):(mS rs at_ x cs ws).at_=at_/\(mS rs at_ x cs ws).x=x/\(mS rs at_ x cs ws).cs=cs:=by
 unfold mS at h⊢;cases e:rs[at_.toNat]? with
 |none=>exact ⟨rfl,rfl,rfl⟩
 |some r=>
  rw[e] at h;dsimp only at h⊢;cases ho:cf x cs ws r with
  |on n x' cs'=>rw[ho] at h;exact absurd rfl h
  |_=>exact ⟨rfl,rfl,rfl⟩
def qg (h:(mS rs at_ x cs ws).w≠"on"):∀ n,AG rs ws n at_ x cs=(x,cs)
 |0=>rfl
 |n+1=>by
  obtain ⟨e1,e2,e3⟩:=DL h;show AG rs ws n _ _ _=_;rw[e1,e2,e3];exact qg h n
def Tr.it (h:Tr rs ws at_ x cs L):∀ b,L[min b (L.length-1)]? =some (AG rs ws b at_ x cs):=by
 induction h with
 |stop h=>intro b;rw[qg h];rw[show min b (([(_,_)]:List (Bx×List Int)).length-1)=0 by simp];rfl
 |on h t ih=>
  obtain ⟨L',rfl⟩:=t.ne;intro b;cases b with
  |zero=>rw[Nat.zero_min];rfl
  |succ b=>
   rw[show min (b+1) ((_::_::L':List (Bx×List Int)).length-1)=min b ((_::L':List (Bx×List Int)).length-1)+1 by simp only[length_cons];omega,List.getElem?_cons_succ];exact ih b
end
def Bx.ky {y:Bx}(h:x.ls=y.ls):x=y:=by
 obtain ⟨a,b,c,d,e,f⟩:=x;obtain ⟨a',b',c',d',e',f'⟩:=y;simp only[Bx.ls,List.cons.injEq,and_true] at h;obtain ⟨rfl,rfl,rfl,rfl,rfl,rfl⟩:=h
 rfl
def vg {j:Int}(h:xx i=xx j):i=j:=by
 unfold xx at h
 split at h<;>split at h<;>simp only[List.cons.injEq,and_true,V.int.injEq,V.str.injEq] at h
 ·omega
 ·exact absurd h.1 (by decide+kernel)
 ·exact absurd h.1 (by decide+kernel)
 ·exact h.2
def uL {P:Nat->Prop}{e:Nat->Bool}(h:∀ j,e j=true ↔ P j):(List.range n).all e=true ↔ ∀ j,j<n->P j:=by
 rw[all_eq_true];exact ⟨λa j hj=>(h j).mp (a j (mem_range.mpr hj)),λa j hj=>(h j).mpr (a j (mem_range.mp hj))⟩
section
variable {a b:Addr}{xs ys:List V}{n:Nat}{P:Nat->Prop}
def Ea (h1:H a=some (wn xs))(h2:H b=some (wn ys))(hl:xs.length=ys.length)(h:∀ (j:Nat) x y,xs[j]? =some x->ys[j]? =some y->∃ c,eO R.K H (n+1) x y c/\(c=true ↔ P j)):∃ c,eO R.K H (n+2) (ut a) (ut b) c/\(c=true ↔ ∀ j,j<xs.length->P j):=by
 classical
 refine ⟨_,eO.ll (e:=λj=>decide (P j)) (bc.of h1) (bc.of h2) hl λj x y e1 e2=>?_,uL λj=>decide_eq_true_iff⟩;obtain ⟨c,hc,hi⟩:=h j x y e1 e2;have:c=decide (P j):=by by_cases p:P j<;>simp_all
 exact this▸hc
def ql (h1:H a=some (wp xs))(h2:H b=some (wp ys))(hl:xs.length=ys.length)(h:∀ (j:Nat) x y,xs[j]? =some x->ys[j]? =some y->∃ c,eO R.K H (n+1) x y c/\(c=true ↔ P j)):∃ c,eO R.K H (n+2) (ut a) (ut b) c/\(c=true ↔ ∀ j,j<xs.length->P j):=by
 classical
 refine ⟨_,eO.tt (e:=λj=>decide (P j)) (aS.of h1) (aS.of h2) λj x y e1 e2=>?_,?_⟩
 ·obtain ⟨c,hc,hi⟩:=h j x y e1 e2;have:c=decide (P j):=by by_cases p:P j<;>simp_all
  exact this▸hc
 ·rw[<-hl,Nat.min_self,beq_self_eq_true,Bool.and_true];exact uL λj=>decide_eq_true_iff
def tZ {j:Int}:∃ c,eO R.K H n (v4 i) (v4 j) c/\(c=true ↔ i=j):=⟨_,.flat rfl rfl,by show (i ==j)=true ↔ _;simp⟩
def Ik {i j:Str}:∃ c,eO R.K H n (wf i) (wf j) c/\(c=true ↔ i=j):=⟨_,.flat rfl rfl,by show (i ==j)=true ↔ _;simp⟩
end
def nX {as bs:List α}(hl:as.length=bs.length)(h:∀ j,j<as.length->as[j]? =bs[j]?):as=bs:=List.ext_getElem? λj=>by
 by_cases e:j<as.length
 ·exact h j e
 ·rw[getElem?_eq_none nofun,getElem?_eq_none nofun]
def G0 {b:Addr}{j:Int}(h1:H a=some (wp (xx i)))(h2:H b=some (wp (xx j))):∃ c,eO R.K H (n+2) (ut a) (ut b) c/\(c=true ↔ i=j):=by
 obtain ⟨w1,i1,e1⟩:=zg (j:=i);obtain ⟨w2,i2,e2⟩:=zg (j:=j);have hi:i=j ↔ w1=w2/\i1=i2:=by
  refine ⟨λh=>?_,λ⟨p,q⟩=>vg ?_⟩
  ·subst h;rw[e1] at e2;simp only[List.cons.injEq,and_true,V.int.injEq,V.str.injEq] at e2;exact e2
  ·rw[e1,e2,p,q]
 rw[e1] at h1;rw[e2] at h2;obtain ⟨c,hc,hh⟩:=ql (n:=n) (P:=λm=>([wf w1,v4 i1])[m]? =([wf w2,v4 i2])[m]?) h1 h2 rfl λm x y f1 f2=>by
  rcases m with _|_|m
  ·cases f1;cases f2;obtain ⟨c,hc,hh⟩:=Ik (H:=H) (R:=R) (n:=n+1) (i:=w1) (j:=w2);exact ⟨c,hc,hh.trans ⟨λe=>by subst e;rfl,λe=>by have:wf w1=wf w2:=Option.some.inj e;exact V.str.inj this⟩⟩
  ·cases f1;cases f2;obtain ⟨c,hc,hh⟩:=tZ (H:=H) (R:=R) (n:=n+1) (i:=i1) (j:=i2);exact ⟨c,hc,hh.trans ⟨λe=>by subst e;rfl,λe=>by have:v4 i1=v4 i2:=Option.some.inj e;exact V.int.inj this⟩⟩
  ·simp at f1
 refine ⟨c,hc,hh.trans (Iff.trans ⟨λe=>?_,λ⟨p,q⟩=>?_⟩ hi.symm)⟩
 ·have g0:wf w1=wf w2:=Option.some.inj (e 0 (by simp));have g1:v4 i1=v4 i2:=Option.some.inj (e 1 (by simp));exact ⟨V.str.inj g0,V.int.inj g1⟩
 ·subst p q;exact λ_ _=>rfl
def GI {q:Sh}(h1:Hf H p)(h2:Hf H q)(hl:p.2.2.length=q.2.2.length):∃ c,eO R.K H 4 (ut p.1) (ut q.1) c/\(c=true ↔ p.2=q.2):=by
 obtain ⟨b1,l1,vs1,a1,a2,a3,a4,a5⟩:=h1;obtain ⟨b2,l2,vs2,c1,c2,c3,c4,c5⟩:=h2;obtain ⟨t1,x1,cs1⟩:=p;obtain ⟨t2,x2,cs2⟩:=q;dsimp only at*;obtain ⟨u,hu,eu⟩:=ql (R:=R) (n:=1) (P:=λm=>x1.ls[m]? =x2.ls[m]?) a2 c2 rfl λm x y f1 f2=>by
  rw[io] at f1 f2;obtain ⟨i,g1,rfl⟩:=nb.mp f1;obtain ⟨j,g2,rfl⟩:=nb.mp f2;obtain ⟨c,hc,hh⟩:=tZ (H:=H) (R:=R) (n:=2) (i:=i) (j:=j);exact ⟨c,hc,by rw[g1,g2];exact hh.trans ⟨λe=>e▸rfl,λe=>Option.some.inj e⟩⟩
 obtain ⟨v,hv,ev⟩:=Ea (R:=R) (n:=1) (P:=λm=>cs1[m]? =cs2[m]?) a3 c3 nofun λm x y f1 f2=>by
  have hm:=(sK.mp f1).1;have g1:cs1[m]? =some (cs1[m]'nofun):=li _;have g2:cs2[m]? =some (cs2[m]'nofun):=li _;obtain ⟨s1,rfl,k1⟩:=a5 m _ _ f1 g1;obtain ⟨s2,rfl,k2⟩:=c5 m _ _ f2 g2;obtain ⟨c,hc,hh⟩:=G0 (R:=R) (n:=0) k1 k2;exact ⟨c,hc,by rw[g1,g2];exact hh.trans ⟨λe=>congrArg some e,λe=>Option.some.inj e⟩⟩
 obtain ⟨c,hc,hh⟩:=ql (R:=R) (n:=2) (P:=λm=>(m=0->u=true)/\(m=1->v=true)) a1 c1 rfl λm x y f1 f2=>by
  rcases m with _|_|m
  ·cases f1;cases f2;exact ⟨u,hu,by simp⟩
  ·cases f1;cases f2;exact ⟨v,hv,by simp⟩
  ·simp at f1
 refine ⟨c,hc,hh.trans ⟨λe=>?_,λe=>?_⟩⟩
 ·have g0:=eu.mp ((e 0 (by simp)).1 rfl);have g1:=ev.mp ((e 1 (by simp)).2 rfl);have e1:x1=x2:=Bx.ky (nX rfl λj hj=>g0 j (by rw[ci];exact hj));have e2:cs1=cs2:=nX hl λj hj=>g1 j nofun
  rw[e1,e2]
 ·cases e;exact λj _=>⟨λ_=>eu.mpr λ_ _=>rfl,λ_=>ev.mpr λ_ _=>rfl⟩
def FA {q:Sh}(h1:Hf H p)(h2:Hf H q)(e:p.1=q.1):p.2=q.2:=by
 obtain ⟨b1,l1,vs1,a1,a2,a3,a4,a5⟩:=h1;obtain ⟨b2,l2,vs2,c1,c2,c3,c4,c5⟩:=h2;rw[e,c1] at a1;cases a1;rw[c2] at a2;rw[c3] at a3;cases a3;have e1:p.2.1=q.2.1:=Bx.ky (by
  have:q.2.1.ls.map v4=p.2.1.ls.map v4:=HO.tup.inj (Option.some.inj a2);exact (List.map_inj_right (λ_ _ h=>V.int.inj h)).mp this.symm)
 have e2:p.2.2=q.2.2:=nX nofun λj hj=>by
  have g0:vs1[j]? =some (vs1[j]'nofun):=li _;have g1:p.2.2[j]? =some (p.2.2[j]'hj):=li _;have g2:q.2.2[j]? =some (q.2.2[j]'nofun):=li _;obtain ⟨t,e1,k1⟩:=a5 j _ _ g0 g1;obtain ⟨t2,e2,k2⟩:=c5 j _ _ g0 g2;rw[e1] at e2;cases e2;rw[k1] at k2;rw[g1,g2,vg (HO.tup.inj (Option.some.inj k2))]
 exact Prod.ext e1 e2
def J8 {q:Sh}(h1:Hf H p)(h2:Hf H q)(hl:p.2.2.length=q.2.2.length)(q0:p.2=q.2->Q (.bl false) H)(q1:p.2≠q.2->Q (.bl true) H):dC R.K true (ut p.1) (ut q.1) H Q:=by
 by_cases e:p.1=q.1
 ·have:=q0 (FA h1 h2 e);obtain ⟨b1,l1,vs1,a1,_⟩:=h1;rw[<-e];exact ne_self (.inl ⟨_,aS.of a1⟩) this
 ·obtain ⟨c,hc,hh⟩:=GI (R:=R) h1 h2 hl;refine AR hc (by decide) e ?_;cases c with
  |true=>exact q0 (hh.mp rfl)
  |false=>exact q1 λh=>Bool.false_ne_true (hh.mpr h)
abbrev stK (N:Nat):Nat->List Int
 |0=>sw N 0
 |m+1=>(sw N 0).set (N-1-m) 1
def dB:(stK N k).length=N:=by cases k<;>simp[stK]
abbrev xi (C c1 c2:List Int):Prop:=c1.map (ev C)≠c2.map (ev C)
abbrev rz (H:Hp)(l:Addr)(cs:List Int):Prop:=∃ vs,H l=some (wn vs)/\vs.length=cs.length/\∀ (i:Nat) v j,vs[i]? =some v->cs[i]? =some j->wz v j H
section
variable {T t C l1 l2 b1 b2:Addr}{cs c1 c2:List Int}{j:Int}{S:List Sh}{x1 x2:Bx}{N:Nat}
def jl {b:Nat}(hk:1<=k)(e:H T=some (wn (S.map dP)))(hp:S[min b (S.length-1)]? =some p)(q:Q (ut p.1) H):ab tab R k 78 [ut T,v4 (b:Int)] H Q E:=by
 delta iW;have h0:=(sK.mp hp).1;left;refine aO e ?_;rw[ci];left;refine so rfl ?_;refine aJ e (aF nofun ?_) q;rw[io,show (min (b:Int) ((S.length:Int)-1)).toNat=min b (S.length-1) by omega,hp]
 rfl
def g9 (hk:1<=k)(hj:j<0-> -1-j<cs.length)(e1:H t=some (wp (xx j)))(e2:H C=some (wn (cs.map v4)))(q:Q (v4 (ev cs j)) H):ab tab R k 79 [ut t,ut C] H Q E:=by
 delta hX;unfold xx at e1;unfold ev at q
 by_cases h:j<0
 ·rw[if_pos h] at e1 q;left;refine c7 e1 rfl ?_;right
  repeat walk_at "sc"
  refine c7 e1 rfl ?_;left;exact aJ e2 (ET nofun (hj h)) q
 ·rw[if_neg h] at e1 q;left;refine c7 e1 rfl ?_;right
  repeat walk_at "sc"
  exact c7 e1 rfl q
def qK (ro:Ro K R)(hk:1<=k)(z:Sep O H)(e1:H b1=some (wp (x1.ls.map v4)))(e2:H b2=some (wp (x2.ls.map v4)))(q0:x1=x2->∀ H',Sep O H'->Q wl H')
  (q1:∀ (j:Nat) nm,jw[j]? =some nm->x1.ls[j]? ≠x2.ls[j]? ->(∀ i,i<j->x1.ls[i]? =x2.ls[i]?)->∀ H',Sep O H'->Q (wf nm) H'):ab tab R k 80 [ut b1,ut b2] H Q E:=by
 delta jc;obtain ⟨a,hg,hS⟩:=ro.g_NAMES;rw[<-ro.hK] at hS;have z2:=Sep.Fo e1 (Sep.Fo e2 z);left;refine ⟨rfl,?_⟩;left;simp only[hg];refine K8 (hS H) ?_;refine C4 (xs:=jw.map wf) (λj U H=>∃ u v,U=[some (ut b1),some (ut b2),u,v]/\(∀ i,i<j->x1.ls[i]? =x2.ls[i]?)/\Sep (tu b1 (x1.ls.map v4)::tu b2 (x2.ls.map v4)::O) H) ⟨_,_,rfl,λi h=>absurd h (Nat.not_lt_zero _),z2⟩ (λj U H _=>hS H) ?_ ?_
 ·rintro j y T U H hy ⟨u,v,rfl,hb,zz⟩ hT;rw[io] at hy;obtain ⟨nm,hn,rfl⟩:=nb.mp hy;have hj:j<6:=(sK.mp hn).1;have zt:=zz.iK (xs:=[v4 j,wf nm]) hT;generalize upd H T _=H2 at zt⊢;have g1:x1.ls[j]? =some (x1.ls[j]'hj):=li _;have g2:x2.ls[j]? =some (x2.ls[j]'hj):=li _;left;refine ⟨T,_,rfl,.inl (aS.of zt.atT),rfl,?_⟩;left;refine c7 (zt.bT .k1) (L2.dv (v:=v4 (x1.ls[j]'hj)) (by rw[io,g1];rfl)) ?_;left;refine c7 (zt.bT .k2) (L2.dv (v:=v4 (x2.ls[j]'hj)) (by rw[io,g2];rfl)) ?_;right;refine az (λh=>?_) (λh=>?_)
  ·right;refine ⟨_,_,rfl,λi hi=>?_,zt.drop⟩
   by_cases e:i=j
   ·subst e;rw[g1,g2,h]
   ·exact hb i nofun
  ·right;exact q1 j nm hn (by rw[g1,g2];exact λe=>h (Option.some.inj e)) hb _ zt.drop.drop.drop
 ·rintro U H ⟨u,v,rfl,hb,zz⟩;right;exact q0 (Bx.ky (nX rfl λj hj=>hb j hj)) H zz.drop.drop
def hG (hk:2<=k)(h60:cs.length<=60)(o1:rz H l1 c1)(o2:rz H l2 c2)(h1:c1.length=cs.length)(h2:c2.length=cs.length)(j1:∀ j ∈ c1,j<0-> -1-j<(cs.length:Int)) (j2:∀ j ∈ c2,j<0-> -1-j<(cs.length:Int)) (e:H C=some (wn (cs.map v4)))
  (q0:¬ xi cs c1 c2->Q wl H) (q1:xi cs c1 c2->∀ j:Nat,(c1.map (ev cs))[j]? ≠(c2.map (ev cs))[j]? ->(∀ i,i<j->(c1.map (ev cs))[i]? =(c2.map (ev cs))[i]?)->Q (v4 (j:Int)) H):ab tab R k 81 [ut l1,ut l2,ut C] H Q E:=by
 delta gM;obtain ⟨vs1,a1,a2,a3⟩:=o1;obtain ⟨vs2,d1,d2,d3⟩:=o2;left;refine ⟨rfl,?_⟩;refine aO e ?_;rw[ci];refine ⟨by omega,by omega,?_⟩;rw[re];refine hE (n:=cs.length) (λj U H'=>∃ u,U=[some (ut l1),some (ut l2),some (ut C),u]/\(∀ i,i<j->(c1.map (ev cs))[i]? =(c2.map (ev cs))[i]?)/\H'=H) ⟨_,rfl,λi h=>absurd h (Nat.not_lt_zero _),rfl⟩ ?_ ?_
 ·rintro j U H' hj ⟨u,rfl,hb,rfl⟩;have g1:c1[j]? =some (c1[j]'nofun):=li _;have g2:c2[j]? =some (c2[j]'nofun):=li _;have f1:vs1[j]? =some (vs1[j]'nofun):=li _;have f2:vs2[j]? =some (vs2[j]'nofun):=li _;obtain ⟨t1,u1,k1⟩:=a3 j _ _ f1 g1;obtain ⟨t2,u2,k2⟩:=d3 j _ _ f2 g2;rw[u1] at f1;rw[u2] at f2;left;refine ⟨rfl,?_⟩;refine aJ a1 (gW f1) ?_;left;refine g9 nofun (j1 _ (db g1)) k1 e ?_;left;refine ⟨rfl,?_⟩;refine aJ d1 (gW f2) ?_;left;refine g9 nofun (j2 _ (db g2)) k2 e ?_;right;have m1:(c1.map (ev cs))[j]? =some (ev cs (c1[j]'nofun)):=by rw[io,g1];rfl
  have m2:(c2.map (ev cs))[j]? =some (ev cs (c2[j]'nofun)):=by rw[io,g2];rfl
  refine az (λh=>?_) (λh=>?_)
  ·left;refine ⟨_,rfl,λi hi=>?_,rfl⟩
   by_cases e:i=j
   ·subst e;rw[m1,m2,h]
   ·exact hb i nofun
  ·left;rw[Int.zero_add];have hne:(c1.map (ev cs))[j]? ≠(c2.map (ev cs))[j]? :=by rw[m1,m2];exact λe=>h (Option.some.inj e)
   exact q1 (λe=>hne (by rw[e])) j hne hb
 ·rintro U H' ⟨u,rfl,hb,rfl⟩;left;refine q0 λhd=>hd (nX (by rw[ci,ci];omega) λj hj=>hb j ?_)
  rw[ci] at hj
  omega
noncomputable abbrev Ce:=Addr×List Int
abbrev ik (p:Ce):aq:=pt p.1 (wn (p.2.map v4))
abbrev iS (p:Ce):V:=ut p.1
def rep0 {n:Int}:(sw n.toNat [v4 0]).flatten=(sw n.toNat (0:Int)).map v4:=by
 rw[List.map_replicate];generalize n.toNat=m
 induction m with
 |zero=>rfl
 |succ m ih=>rw[replicate_succ,flatten_cons,ih];rfl
def A8 {c:Nat}(h:c<N):sw c (0:Int)++[1]++sw (N-c-1) 0=(sw N 0).set c 1:=by
 have e:sw N (0:Int)=sw c 0++0::sw (N-c-1) 0:=by
  rw[<-replicate_succ,List.replicate_append_replicate]
  congr 1
  omega
 rw[e,List.set_append_right _ _ (by simp)];simp
def yI (hk:1<=k)(n0:1<=N)(n60:N<=60)(z:Sep O H)(q:∀ T (A:List Ce) H',A.map (·.2)=(List.range (N+1)).map (stK N)->Sep (pt T (wn (A.map iS))::(A.reverse.map ik++O)) H'->Q (ut T) H'):ab tab R k 82 [v4 (N:Int)] H Q E:=by
 delta dU;right;rename_i l0 H0 z0 l1 H1 z1 T H2 z2;rw[rep0,re] at z1 z2;have z3:Sep (pt T (wn [ut l1])::pt l1 (wn ((sw N (0:Int)).map v4))::O) H2:=z2.sub (by ac_nf);have z3:Sep (pt T (wn [ut l1])::ik (l1,stK N 0)::O) H2:=z3;clear z z0 z1 z2;rw[show ((N:Int)-1- -1).toNat=N by omega];refine yp (n:=N) (λj U H=>∃ (A:List Ce) (u:Option V),U=[some (v4 (N:Int)),some (ut T),u]/\A.map (·.2)=(List.range (j+1)).map (stK N)/\Sep (pt T (wn (A.map iS))::(A.reverse.map ik++O)) H) ⟨[(l1,stK N 0)],_,rfl,rfl,z3⟩ ?_ ?_
 ·rintro j U H hj ⟨A,u,rfl,hA,zz⟩;have hAl:A.length=j+1:=by have:=congrArg List.length hA;simpa using this
  clear z3;left;refine ⟨T,_,rfl,zz.at,?_⟩;right;rename_i p1 H1 z1 p2 H2 z2 p3 H3 z3;rw[rep0] at z3;refine kN (ys:=[v4 1]) z3 (z3.get .k1) z3.at (by simp;omega) (λp4 H4 z4=>?_);clear z1 z2 z3 zz;right;rename_i p5 H5 z5 p6 H6 z6;rw[rep0] at z6;refine kN z6 (z6.get .k2) z6.at (by simp;omega) (λp7 H7 z7=>?_);clear z4 z5 z6;have ec:(sw ((N:Int)-1-(j:Int)).toNat (0:Int)).map v4++[v4 1]++(sw ((N:Int)-((N:Int)-1-(j:Int))-1).toNat (0:Int)).map v4=(stK N (j+1)).map v4:=by
   rw[show ((N:Int)-1-(j:Int)).toNat=N-1-j by omega,show ((N:Int)-((N:Int)-1-(j:Int))-1).toNat=N-(N-1-j)-1 by omega,show [v4 1]=[(1:Int)].map v4 from rfl,<-f8,<-f8,A8 nofun]
   rfl
  rw[ec] at z7;have z8:Sep (pt p7 (wn ((stK N (j+1)).map v4))::pt T (wn (A.map iS))::(A.reverse.map ik++O)) H7:=z7.sub (by ac_nf);clear z7;left;refine ⟨_,z8.get .k1,vn z8 .k1 (by rw[ci];omega) (λH8 z9=>?_)⟩;refine ⟨A++[(p7,stK N (j+1))],_,rfl,by rw[f8,hA,show List.range (j+1+1)=List.range (j+1)++[j+1] from List.range_succ,f8];rfl,?_⟩;rw[reverse_append,f8,f8,le];show Sep (pt T (wn (A.map iS++[ut p7]))::pt p7 (wn ((stK N (j+1)).map v4))::(A.reverse.map ik++O)) H8;exact z9.pull .k1
 ·rintro U H ⟨A,u,rfl,hA,zz⟩;right;exact q T A H hA zz
end
@[irreducible] noncomputable def EC (I:Nat->Addr->List V->Hp->Prop) (j:Nat) (D:Addr):VK:=λv H4=>∃ zs,H4 D=some (wn zs)/\zs.length<PySem.sizeLine/\∃ ys2,I (j+1) D ys2 (upd H4 D (wn (zs++[v])))
def EC.mk {j:Nat}(h1:H3 D=some (wn ys))(hl:ys.length<=999)(h2:I (j+1) D (ys++[v]) (upd H3 D (wn (ys++[v])))):EC I j D v H3:=by
 unfold EC;exact ⟨ys,h1,cD nofun,ys++[v],h2⟩
@[irreducible] noncomputable def yF (I:Nat->Addr->List V->Hp->Prop) (te:TE) (j:Nat) (D:Addr) (rest:St) (x:V):Bool->Hp->Prop:=λb H3=>(b=true->te (some x::rest) H3 λv H4=>EC I j D v H4)/\(b=false->∃ ys2,I (j+1) D ys2 H3)
def yF.t {j:Nat}{x:V}{c:Bool}(e:c=true)(h:te (some x::rest) H3 λv H4=>EC I j D v H4):yF I te j D rest x c H3:=by
 unfold yF;exact ⟨λ_=>h,λz=>(by rw[e] at z;cases z)⟩
def yF.f {j:Nat}{x:V}{c:Bool}(e:c=false)(h:I (j+1) D ys H3):yF I te j D rest x c H3:=by
 unfold yF;exact ⟨λz=>(by rw[e] at z;cases z),λ_=>⟨ys,h⟩⟩
def De {KK:W.Frag}{tc:TT}(I:Nat->Addr->List V->Hp->Prop)(hl:∀ j D ys H,I j D ys H->bc KK H a xs) (h0:∀ D,H D=none->I 0 D [] (upd H D (wn [])))
  (hs:∀ j D ys x H',xs[j]? =some x->I j D ys H'->tc (some x::rest) H' (yF I te j D rest x))
  (hd:∀ D ys H',I xs.length D ys H'->Q (ut D) H'):Fz tc te (BM KK a) (none::rest) H Q:=by
 unfold Fz;intro D hD;refine ⟨λi m σ' H'=>m=xs.length-i/\i<=xs.length/\∃ ys x0,σ'=x0::rest/\I i D ys H',⟨xs.length,by simp,Nat.zero_le _,[],none,rfl,h0 D hD⟩,λi m σ' H' ⟨e,hi,ys,x0,e1,h⟩=>?_⟩;subst e1
 by_cases hlt:i<xs.length
 ·refine .inr ⟨⟨xs,xs[i],hl i D ys H' h,li hlt⟩,λσ2 H2=>∃ ys2 x2,σ2=x2::rest/\I (i+1) D ys2 H2,λσ2 H2 ⟨ys2,x2,f1,f3⟩=>⟨xs.length-(i+1),by omega,rfl,hlt,ys2,x2,f1,f3⟩,λx H'' y=>?_⟩;obtain ⟨e1,hy⟩:=y;subst e1;have z:=hs i D ys x H'' (hy xs (hl i D ys H'' h)) h;have e:yF I te i D rest x=λb H3=>(b=true->te (some x::rest) H3 λv H4=>∃ zs,H4 D=some (wn zs)/\zs.length<PySem.sizeLine/\∃ ys2 x2,some x::rest=x2::rest/\I (i+1) D ys2 (upd H4 D (wn (zs++[v]))))/\(b=false->∃ ys2 x2,some x::rest=x2::rest/\I (i+1) D ys2 H3):=by
   funext b H3
   unfold yF;have e2:(λv H4=>EC I i D v H4)=λv H4=>∃ zs,H4 D=some (wn zs)/\zs.length<PySem.sizeLine/\∃ ys2 x2,some x::rest=x2::rest/\I (i+1) D ys2 (upd H4 D (wn (zs++[v]))):=by
    funext v H4
    unfold EC;exact propext ⟨λ⟨zs,a,b,ys2,c⟩=>⟨zs,a,b,ys2,_,rfl,c⟩,λ⟨zs,a,b,ys2,_,_,c⟩=>⟨zs,a,b,ys2,c⟩⟩
   rw[e2];exact propext ⟨λ⟨p,q⟩=>⟨p,λz=>let ⟨y,w⟩:=q z;⟨y,_,rfl,w⟩⟩,λ⟨p,q⟩=>⟨p,λz=>let ⟨y,_,_,w⟩:=q z;⟨y,w⟩⟩⟩
  rw[e] at z;exact z
 ·have:i=xs.length:=by omega
  subst this;exact .inl ⟨⟨xs,hl _ D ys H' h,pi _⟩,hd D ys H' h⟩
def Ge {c1 c2:List Int}(hl:c1.length=c2.length)(j1:∀ j ∈ c1,j<0-> -1-j<(N:Int)) (j2:∀ j ∈ c2,j<0-> -1-j<(N:Int)) (h:c1≠c2):∃ k,k<=N/\xi (stK N k) c1 c2:=by
 obtain ⟨i,hi,ne⟩:∃ i,i<c1.length/\c1[i]? ≠c2[i]? :=Classical.byContradiction λg=>h (nX hl λi hi=>Classical.byContradiction λe=>g ⟨i,hi,e⟩)
 have g1:c1[i]? =some (c1[i]'hi):=li _;have g2:c2[i]? =some (c2[i]'nofun):=li _;have a1:=j1 _ (db g1);have a2:=j2 _ (db g2);generalize c1[i]'hi=u at g1 a1;generalize c2[i]'nofun=v at g2 a2;rw[g1,g2] at ne;have ne:u≠v:=λe=>ne (by rw[e])
 have key:∀ k,ev (stK N k) u≠ev (stK N k) v->xi (stK N k) c1 c2:=λk hk e=>by
  have e2:(c1.map (ev (stK N k)))[i]? =(c2.map (ev (stK N k)))[i]? :=by rw[e]
  rw[io,io,g1,g2] at e2;exact hk (Option.some.inj e2)
 have z0:∀ m,gt (stK N 0) m=0:=λm=>by
  unfold gt stK;rw[getElem?_replicate]
  split<;>rfl
 have one:∀ m:Nat,m<N->∀ n:Int,0<=n->gt (stK N (N-1-m+1)) n=if n=(m:Int) then 1 else 0:=λm hm n hn=>by
  show ((sw N (0:Int)).set (N-1-(N-1-m)) 1)[n.toNat]?.getD 0=_;rw[show N-1-(N-1-m)=m by omega,List.getElem?_set]
  by_cases e:n=(m:Int)
  ·rw[if_pos nofun,if_pos (by simpa using hm),if_pos e];rfl
  ·rw[if_neg nofun,if_neg e,getElem?_replicate]
   split<;>rfl
 by_cases hu:u<0
 ·by_cases hv:v<0
  ·refine ⟨N-1-(-1-u).toNat+1,by omega,key _ ?_⟩;unfold ev;rw[if_pos hu,if_pos hv,one _ nofun _ nofun,one _ nofun _ nofun,if_pos nofun,if_neg nofun]
   decide
  ·by_cases e:v=0
   ·refine ⟨N-1-(-1-u).toNat+1,by omega,key _ ?_⟩;unfold ev;rw[if_pos hu,if_neg hv,one _ nofun _ nofun,if_pos nofun,e]
    decide
   ·refine ⟨0,Nat.zero_le _,key _ ?_⟩;unfold ev;rw[if_pos hu,if_neg hv,z0];exact λh=>e h.symm
 ·by_cases hv:v<0
  ·by_cases e:u=0
   ·refine ⟨N-1-(-1-v).toNat+1,by omega,key _ ?_⟩;unfold ev;rw[if_neg hu,if_pos hv,one _ nofun _ nofun,if_pos nofun,e]
    decide
   ·refine ⟨0,Nat.zero_le _,key _ ?_⟩;unfold ev;rw[if_neg hu,if_pos hv,z0];exact e
  ·refine ⟨0,Nat.zero_le _,key _ ?_⟩;unfold ev;rw[if_neg hu,if_neg hv];exact ne
def rz.of {l:Addr}{cs:List Int}(z:Sep O H)(p1:af (pt l (wn vs)) O Δ)(p2:af (cV vs cs) O Δ'):rz H l cs:=⟨vs,z.get p1,(cV.of (z.pull p2)).1,(cV.of (z.pull p2)).2⟩
section
variable {l1 l2:Addr}{c1 c2:List Int}{v1 v2:List V}{N:Nat}{Δ1 Δ2 Δ3 Δ4:List aq}
def Bi (hk:3<=k)(n0:1<=N)(n60:N<=60)(h1:c1.length=N)(h2:c2.length=N)(j1:∀ j ∈ c1,j<0-> -1-j<(N:Int)) (j2:∀ j ∈ c2,j<0-> -1-j<(N:Int)) (hne:c1≠c2) (z:Sep O H) (p1:af (pt l1 (wn v1)) O Δ1) (p2:af (cV v1 c1) O Δ2) (p3:af (pt l2 (wn v2)) O Δ3) (p4:af (cV v2 c2) O Δ4)
  (q:∀ C k H',k<=N->xi (stK N k) c1 c2->(∀ i,i<k->¬ xi (stK N i) c1 c2)->Sep (pt C (wn ((stK N k).map v4))::O) H'->Q (ut C) H'):ab tab R k 83 [ut l1,ut l2] H Q E:=by
 delta fP;have hv:=(cV.of (z.pull p2)).1;left;refine ⟨rfl,?_⟩;left;refine ⟨rfl,?_⟩;refine aO (z.get p1) ?_;rw[hv,h1];left;refine yI nofun n0 n60 z (λT A H1 hA z1=>?_);have hAl:A.length=N+1:=by have:=congrArg List.length hA;simpa using this
 have hAi:∀ (i:Nat) (a:Ce),A[i]? =some a->a.2=stK N i:=λi a e=>by
  have hi:=(sK.mp e).1;have e2:(A.map (·.2))[i]? =some a.2:=by rw[io,e];rfl
  rw[hA,io,List.getElem?_range nofun] at e2;exact (Option.some.inj e2).symm
 clear z;left;refine sN z1.at ?_;refine De (xs:=A.map iS) (λj D ys H=>ys.length<=j/\((ys=[]/\∀ i,i<j->¬ xi (stK N i) c1 c2)\/∃ (m:Nat) (a:Ce),m<j/\A[m]? =some a/\xi (stK N m) c1 c2/\(∀ i,i<m->¬ xi (stK N i) c1 c2)/\ys[0]? =some (ut a.1))/\Sep (pt D (wn ys)::pt T (wn (A.map iS))::(A.reverse.map ik++O)) H) (λj D ys H hI=>bc.of (hI.2.2.get .k1)) (λD hD=>⟨pi _,.inl ⟨rfl,λi h=>absurd h (Nat.not_lt_zero _)⟩,z1.new (o:=wn []) hD⟩) (λj D ys y H hy hI=>?_) (λD ys H hI=>?_)
 ·obtain ⟨hyl,hc,zz⟩:=hI;have hjl:=(sK.mp hy).1;rw[ci] at hjl;rw[io] at hy;obtain ⟨⟨a,st⟩,g,rfl⟩:=nb.mp hy;have es:st=stK N j:=hAi j _ g;subst es;obtain ⟨Θ,f⟩:=aR (f:=ik) (x:=(a,stK N j)) (l:=A.reverse) (by have:=db g;simpa using this);clear z1;left;refine ⟨rfl,?_⟩;have hlen:(stK N j).length=N:=dB;refine hG (cs:=stK N j) (c1:=c1) (c2:=c2) nofun nofun (rz.of zz (.j2 (aa p1)) (.j2 (aa p2))) (rz.of zz (.j2 (aa p3)) (.j2 (aa p4))) nofun nofun (by rw[hlen];exact j1) (by rw[hlen];exact j2) (zz.get (o:=wn ((stK N j).map v4)) (.j2 (f O))) (λhd=>?_) (λhd m hm1 hm2=>?_)
  ·left;refine bg ?_;refine yF.f rfl ⟨by omega,?_,zz⟩;rcases hc with ⟨e,hb⟩|⟨m,a',hm,g',d',hb,e⟩
   ·refine .inl ⟨e,λi hi=>?_⟩
    by_cases h:i=j
    ·subst h;exact hd
    ·exact hb i nofun
   ·exact .inr ⟨m,a',by omega,g',d',hb,e⟩
  ·left;refine bg ?_;refine yF.t rfl ?_;left;refine EC.mk zz.at nofun ⟨by rw[cr,ge];omega,?_,zz.set rfl⟩;rcases hc with ⟨e,hb⟩|⟨m',a',hm,g',d',hb,e⟩
   ·exact .inr ⟨j,_,Nat.lt_succ_self _,g,hd,hb,by rw[e];rfl⟩
   ·refine .inr ⟨m',a',by omega,g',d',hb,?_⟩;have:=(sK.mp e).1;rw[getElem?_append_left this];exact e
 ·obtain ⟨hyl,hc,zz⟩:=hI;rw[ci] at hc;clear z1;obtain ⟨m,a,hm,g,d,hb,e⟩:∃ (m:Nat) (a:Ce),m<A.length/\A[m]? =some a/\xi (stK N m) c1 c2/\(∀ i,i<m->¬ xi (stK N i) c1 c2)/\ys[0]? =some (ut a.1):=by
   rcases hc with ⟨_,hb⟩|h
   ·obtain ⟨k,hk,d⟩:=Ge (N:=N) (h1.trans h2.symm) j1 j2 hne;exact absurd d (hb k nofun)
   ·exact h
  have es:=hAi m a g;obtain ⟨Θ,f⟩:=aR (f:=ik) (x:=a) (l:=A.reverse) (by have:=db g;simpa using this);left;refine aJ zz.at (L2.dv (j:=0) e) ?_;have z2:Sep (ik a::pt D (wn ys)::pt T (wn (A.map iS))::(Θ++O)) H:=zz.pull (.j2 (f O));obtain ⟨a,st⟩:=a;have es:st=stK N m:=es;subst es;have z3:Sep (pt a (wn ((stK N m).map v4))::pt D (wn ys)::pt T (wn (A.map iS))::(Θ++O)) H:=z2;exact q a m H nofun d hb (z3.sub (.cons .e (.drop (.drop jL))))
end
def Tr.len (hb:∀ r ∈ rs,aC r) (n60:N<=60) (hx:x.ok) (h:Tr rs (a7 N) 0 x (en N) L):∀ p ∈ L,p.2.length=N:=
 Tr.all (P:=λp=>p.2.length=N) hb (by rw[aG];exact n60) (λx cs _ e=>by dsimp only;rw[e,aG]) h hx (by rw[dJ,aG])
def hU {O Γ':List aq}(h:Sub O Γ'):∀ {L:List aq},Sub O (L++Γ')
 | []=>h
 |_::_=>.drop (hU h)
inductive Al where
 |al
 |bx (b:Nat) (nm:Str)
 |ce (b k c:Nat)
abbrev Al.u:Al->List V
 | .al=>[]
 | .bx _ nm=>[wf "box",wf nm]
 | .ce _ _ c=>[wf "cell",v4 (c:Int)]
abbrev Al.kk:Al->Nat
 | .ce _ k _=>k
 |_=>0
abbrev Al.b:Al->Nat
 | .ce b _ _=>b
 | .bx b _=>b
 | .al=>0
abbrev D8 (N:Nat)(t:Addr):Al->aq
 | .al=>pt t (wp [wf "alike"])
 |o=>bx λq:Addr×Addr=>[pt t (wp [wf "parted",v4 (o.b:Int),ut q.1,ut q.2]),pt q.1 (wn ((stK N o.kk).map v4)),tu q.2 o.u]
abbrev Cm (N:Nat)(s1 s2:Nat->Bx×List Int):Al->Prop
 | .al=>∀ b,s1 b=s2 b
 | .bx b nm=>(∀ i,i<b->s1 i=s2 i)/\∃ j:Nat,jw[j]? =some nm/\(s1 b).1.ls[j]? ≠(s2 b).1.ls[j]? /\∀ i,i<j->(s1 b).1.ls[i]? =(s2 b).1.ls[i]?
 | .ce b k c=>(∀ i,i<b->s1 i=s2 i)/\(s1 b).1=(s2 b).1/\xi (stK N k) (s1 b).2 (s2 b).2/\(∀ i,i<k->¬ xi (stK N i) (s1 b).2 (s2 b).2)/\((s1 b).2.map (ev (stK N k)))[c]? ≠((s2 b).2.map (ev (stK N k)))[c]? /\∀ i,i<c->((s1 b).2.map (ev (stK N k)))[i]? =((s2 b).2.map (ev (stK N k)))[i]?
section
variable {N:Nat}{s1 s2:Nat->Bx×List Int}
end
section
variable {N b:Nat}{t1 t2 b1 b2 l1 l2:Addr}{x1 x2:Bx}{c1 c2:List Int}{v1 v2:List V}{s1 s2:Nat->Bx×List Int}
noncomputable abbrev Jw (t1 b1 l1 t2 b2 l2:Addr)(x1 x2:Bx)(v1 v2:List V)(c1 c2:List Int)(O:List aq):List aq:=tu t1 [ut b1,ut l1]::tu b1 (x1.ls.map v4)::pt l1 (wn v1)::cV v1 c1::tu t2 [ut b2,ut l2]::tu b2 (x2.ls.map v4)::pt l2 (wn v2)::cV v2 c2::O
def AJ (ro:Ro K R)(hk:4<=k)(n0:1<=N)(n60:N<=60)(e1:s1 b=(x1,c1))(e2:s2 b=(x2,c2))(h1:c1.length=N)(h2:c2.length=N)(j1:∀ j ∈ c1,j<0-> -1-j<(N:Int)) (j2:∀ j ∈ c2,j<0-> -1-j<(N:Int)) (hb:∀ i,i<b->s1 i=s2 i) (hne:s1 b≠s2 b)
  (z:Sep (Jw t1 b1 l1 t2 b2 l2 x1 x2 v1 v2 c1 c2 O) H) (q:∀ t o H',Cm N s1 s2 o->Sep (D8 N t o::Jw t1 b1 l1 t2 b2 l2 x1 x2 v1 v2 c1 c2 O) H'->Q (ut t) H'):ab tab R k 84 [v4 (b:Int),ut t1,ut t2] H Q E:=by
 delta qI;have hv:=(cV.of (z.pull .k3)).1;left;refine ⟨rfl,?_⟩;refine c7 z.atT rfl ?_;left;refine c7 (z.bT (.t .k3)) rfl ?_;left;refine qK ro nofun z (z.bT .k1) (z.bT (.j2 .k3)) (λex H1 z1=>?_) (λj nm hn hj hi H1 z1=>?_)
 ·have hc:c1≠c2:=λe=>hne (by rw[e1,e2,ex,e])
  clear z;left;refine bg ?_;left;refine aw rfl ?_;left;refine ⟨rfl,?_⟩;refine c7 z1.atT rfl ?_;left;refine c7 (z1.bT (.t .k3)) rfl ?_;left;refine Bi (c1:=c1) (c2:=c2) nofun n0 n60 h1 h2 j1 j2 hc z1 .k2 .k3 (.j2 (.t .k3)) (.j2 (.j2 .k3)) (λC m H2 hm hd hl z2=>?_);clear z1;have hlen:(stK N m).length=N:=dB;left;refine ⟨rfl,?_⟩;refine c7 (z2.bT .k1) rfl ?_;left;refine c7 (z2.bT (.j2 .k3)) rfl ?_;left;refine hG (cs:=stK N m) (c1:=c1) (c2:=c2) nofun nofun (rz.of z2 .k3 (.t .k3)) (rz.of z2 (.j2 (.j2 .k3)) (.j2 (.j2 (.t .k3)))) nofun nofun (by rw[hlen];exact j1) (by rw[hlen];exact j2) z2.at (λhd2=>absurd hd hd2) (λ_ c hc1 hc2=>?_);left;refine aY z2 (ol rfl) (λu H3 z3=>?_);left;refine aY z3.toT (ol rfl) (λt H4 z4=>?_);refine q t (.ce b m c) H4 ⟨hb,by rw[e1,e2];exact ex,by rw[e1,e2];exact hd,by rw[e1,e2];exact hl,by rw[e1,e2];exact hc1,by rw[e1,e2];exact hc2⟩ ?_;exact gf (C,u) (z4.sub (.cons .e (.cons .k1 (.cons .e .refl))))
 ·clear z;left;refine bg ?_;left;refine aN rfl ?_;left;refine iI z1 (ol rfl) (λl0 H2 z2=>?_);left;refine c7 (z2.bT .k1) rfl ?_;left;refine aO (z2.get .k3) ?_;rw[hv,h1];left;refine Ej z2 z2.at nofun nofun (by decide) (λC H3 z3=>?_);rw[rep0,re] at z3;left;refine aY z3 (ol rfl) (λu H4 z4=>?_);left;refine aY z4.toT (ol rfl) (λt H5 z5=>?_);refine q t (.bx b nm) H5 ⟨hb,j,hn,by rw[e1,e2];exact hj,by rw[e1,e2];exact hi⟩ ?_;exact gf (C,u) (z5.sub (.cons .e (.cons .k1 (.cons .e (.drop .refl)))))
end
section
variable {N:Nat}{L1 L2 B:Addr}{d1 d2:List V}{rs1 rs2:List Rw}{x:Bx}
def C6 (ro:Ro K R)(hk:13<=k)(n1:1<=rs1.length/\rs1.length<=24)(n2:1<=rs2.length/\rs2.length<=24)(ok1:∀ r ∈ rs1,r.ok) (ok2:∀ r ∈ rs2,r.ok) (hb1:rs1.any aL=false) (hb2:rs2.any aL=false) (hd1:cb R O d1 rs1) (hd2:cb R O d2 rs2) (s0:1<=N) (s60:N<=60) (z:Sep (pt L1 (wn d1)::pt L2 (wn d2)::aH R B x::O) H)
  (q:∀ t o H',Cm N (λb=>AG rs1 (a7 N) b 0 x (en N)) (λb=>AG rs2 (a7 N) b 0 x (en N)) o->Sep (D8 N t o::pt L1 (wn d1)::pt L2 (wn d2)::aH R B x::O) H'->Q (ut t) H'):ab tab R k 85 [ut L1,ut L2,ut B,v4 (N:Int)] H Q E:=by
 delta t8;have bl:∀ {rs:List Rw},rs.any aL=false->∀ r ∈ rs,aC r:=λh r hr=>gQ (by
  have:=any_eq_false.mp h r hr;simpa using this)
 have hx:x.ok:=lS z .k2;left;refine ⟨rfl,?_⟩;refine ml (N:=N) (rs:=rs1) (O:=pt L2 (wn d2)::O) ro nofun n1.1 n1.2 ok1 hb1 hd1.more s0 s60 (z.sub (by ac_nf)) (λT1 S1 H1 hS1 hT1 z1=>?_);clear z;left;refine ⟨rfl,?_⟩;have z1a:=z1.pull (A:=pt L2 (wn d2)) (.j2 (.t (aa .e)));refine ml (N:=N) (rs:=rs2) (O:=pt T1 (wn (S1.map dP))::pt L1 (wn d1)::(S1.reverse.map k9++O)) ro nofun n2.1 n2.2 ok2 hb2 hd2.app.more.more s0 s60 (z1a.pull .k3 |>.pull .k1) (λT2 S2 H2 hS2 hT2 z2=>?_);clear z1 z1a;have it1:=hT1.it;have it2:=hT2.it;have near1:=Tr.near (bl hb1) s60 hx hT1;have near2:=Tr.near (bl hb2) s60 hx hT2;have len1:=Tr.len (bl hb1) s60 hx hT1;have len2:=Tr.len (bl hb2) s60 hx hT2;rw[ci] at it1 it2;have get:∀ {S:List Sh}{i:Nat}{y:Bx×List Int},(S.map (·.2))[i]? =some y->∃ p,S[i]? =some p/\p.2=y:=λ{S i y} h=>by
  rw[io] at h;exact nb.mp h
 left;refine ⟨rfl,?_⟩;refine aO (z2.get (a:=T1) (o:=wn (S1.map dP)) (.j2 (.t (aa .e)))) ?_;left;refine aO z2.at ?_;rw[ci,ci];left;refine zv rfl ?_;refine ⟨by omega,by omega,?_⟩;refine hE (n:=(max (S1.length:Int) (S2.length:Int)).toNat) (λj U H=>∃ u v w,U=[some (ut L1),some (ut L2),some (ut B),some (v4 (N:Int)),some (ut T1),some (ut T2),u,v,w]/\(∀ i,i<j->AG rs1 (a7 N) i 0 x (en N)=AG rs2 (a7 N) i 0 x (en N))/\Sep (pt T2 (wn (S2.map dP))::pt L2 (wn d2)::aH R B x::(S2.reverse.map k9++(pt T1 (wn (S1.map dP))::pt L1 (wn d1)::(S1.reverse.map k9++O)))) H) ⟨_,_,_,rfl,λi h=>absurd h (Nat.not_lt_zero _),z2⟩ ?_ ?_
 ·rintro j U H hj ⟨u,v,w,rfl,hb,zz⟩;obtain ⟨p1,g1,y1⟩:=get (it1 j);obtain ⟨p2,g2,y2⟩:=get (it2 j);obtain ⟨Θ1,f1⟩:=aR (f:=k9) (x:=p1) (l:=S1.reverse) (by have:=db g1;simpa using this);obtain ⟨Θ2,f2⟩:=aR (f:=k9) (x:=p2) (l:=S2.reverse) (by have:=db g2;simpa using this);have m1:p1.2 ∈ S1.map (·.2):=List.mem_map.mpr ⟨p1,db g1,rfl⟩;have m2:p2.2 ∈ S2.map (·.2):=List.mem_map.mpr ⟨p2,db g2,rfl⟩;clear z2;have q1:af (k9 p1) (pt T2 (wn (S2.map dP))::pt L2 (wn d2)::aH R B x::(S2.reverse.map k9++(pt T1 (wn (S1.map dP))::pt L1 (wn d1)::(S1.reverse.map k9++O)))) _:=.t (.j2 (aa (.j2 (f1 O))));have q2:af (k9 p2) (pt T2 (wn (S2.map dP))::pt L2 (wn d2)::aH R B x::(S2.reverse.map k9++(pt T1 (wn (S1.map dP))::pt L1 (wn d1)::(S1.reverse.map k9++O)))) _:=.t (.j2 (f2 _));left;refine ⟨rfl,?_⟩;rw[Int.zero_add];refine jl nofun (zz.get (a:=T1) (o:=wn (S1.map dP)) (.j2 (.t (aa .e)))) g1 ?_;left;refine ⟨rfl,?_⟩;refine jl nofun zz.at g2 ?_;left;refine J8 (D7 zz q1) (D7 zz q2) (by rw[len1 _ m1,len2 _ m2]) (λe=>?_) (λe=>?_)
  ·left;refine aw rfl ?_;refine ⟨_,_,_,rfl,λi hi=>?_,zz⟩
   by_cases h:i=j
   ·subst h;rw[<-y1,<-y2,e]
   ·exact hb i nofun
  ·left;refine aN rfl ?_;left;refine ⟨rfl,?_⟩;obtain ⟨t1,x1,c1⟩:=p1;obtain ⟨t2,x2,c2⟩:=p2;obtain ⟨b2,l2,v2,w2⟩:=Hk (zz.pull q2);obtain ⟨b1,l1,v1,w1⟩:=Hk (w2.pull (.j2 (.j2 (.j2 (.t (aa (.j2 (f1 O))))))));refine AJ (s1:=λb=>AG rs1 (a7 N) b 0 x (en N)) (s2:=λb=>AG rs2 (a7 N) b 0 x (en N)) ro nofun s0 s60 y1.symm y2.symm (len1 _ m1) (len2 _ m2) (near1 _ m1).2 (near2 _ m2).2 hb (λe2=>e (y1.trans (e2.trans y2.symm))) w1 (λt o H3 ho z3=>q t o H3 ho ?_);have z4:=z3.sub (Γ':=D8 N t o::pt L2 (wn d2)::aH R B x::(Θ2++(pt T1 (wn (S1.map dP))::pt L1 (wn d1)::(Θ1++O)))) (.cons .e (.drop (.drop (.drop (.drop (.drop (.drop (.drop (.drop (.drop .refl))))))))));exact (z4.pull (A:=pt L1 (wn d1)) (.j2 (.t (aa .k1)))).sub (.cons .k1 (.cons .e (.cons .e (.cons .e (hU (.drop jL))))))
 ·rintro U H ⟨u,v,w,rfl,hb,zz⟩;left;refine aY zz (ol rfl) (λt H3 z3=>q t .al H3 (λb=>?_) ?_)
  ·by_cases h:b<max S1.length S2.length
   ·exact hb b nofun
   ·obtain ⟨p1,g1,y1⟩:=get (it1 b);obtain ⟨p2,g2,y2⟩:=get (it2 b);have l1:=(sK.mp g1).1;have e1:=it1 (max S1.length S2.length-1);have e2:=it2 (max S1.length S2.length-1);have hh:=hb (max S1.length S2.length-1) nofun;have k1:=it1 b;have k2:=it2 b;rw[show min b (S1.length-1)=min (max S1.length S2.length-1) (S1.length-1) by omega,e1] at k1;rw[show min b (S2.length-1)=min (max S1.length S2.length-1) (S2.length-1) by omega,e2] at k2;dsimp only;rw[<-Option.some.inj k1,<-Option.some.inj k2,hh]
  ·exact (z3.pull (A:=pt L1 (wn d1)) (.j2 (.j2 (aa .k1)))).sub (.cons .k1 (.cons .e (.cons .k1 (.cons .k1 (.drop (hU (.drop jL)))))))
end
abbrev IW (Od:List (Addr×Rw)):Prop:=∀ p ∈ Od,p.2.ok/\aL p.2=false
variable {Od:List (Addr×Rw)}
def IW.add {p:Addr×Rw}(h:IW Od)(hp:p.2.ok/\aL p.2=false):IW (p::Od):=λq hq=>by
 rcases lw.mp hq with rfl|hq
 ·exact hp
 ·exact h q hq
def rR {b:Bn}(h0:0<=i)(h1:i<=60):(Rw.sp (.set b i)).ok/\aL (.sp (.set b i))=false:=⟨⟨by omega,by omega⟩,rfl⟩
def t6 {w:Wd}(h:aL (.lg w)=false):(Rw.lg w).ok/\aL (.lg w)=false:=⟨True.intro,h⟩
abbrev c8 (S Od:List (Addr×Rw)):Prop:=(∀ p ∈ S,p ∈ Od)/\IW Od
section
variable {h:Addr}{m:Int}{N:Nat}
end
def yM (h:n<=xs.length):gj xs none (some (n:Int))=xs.take n:=by
 unfold gj;show (xs.drop 0).take ((if (n:Int)<0 then ((n:Int)+(xs.length:Int)).toNat else min (n:Int).toNat xs.length)-0)=_;rw[if_neg nofun,re,Nat.min_eq_left h]
 rfl
def rE (h:n<=xs.length):gj xs (some (n:Int)) none=xs.drop n:=by
 unfold gj;show (xs.drop (if (n:Int)<0 then ((n:Int)+(xs.length:Int)).toNat else min (n:Int).toNat xs.length)).take (xs.length-(if (n:Int)<0 then ((n:Int)+(xs.length:Int)).toNat else min (n:Int).toNat xs.length))=_;rw[if_neg nofun,re,Nat.min_eq_left h];exact take_of_length_le (by rw[jp];omega)
def GF {y:V}(s:Sep O H)(r:aI (pt a (wn xs)) (pt a (wn (xs.take i.toNat++y::xs.drop i.toNat))) O Γ')(h0:0<=i)(h1:i<=xs.length)(hl:xs.length<=10000)(h:∀ H',Sep Γ' H'->Q wl H'):Fi .insert a xs [v4 i,y] H Q:=by unfold Fi;exact ⟨i,y,rfl,h0,h1,hl,h _ (s.put r rfl)⟩
variable {S:List (Addr×Rw)}
def c8.sub {S':List (Addr×Rw)}(h:c8 S Od)(hs:∀ p ∈ S',p ∈ S):c8 S' Od:=⟨λp hp=>h.1 p (hs p hp),h.2⟩
def t7 {t:Addr}{B:aq}(z:Sep (tu t r.tl::A::B::(Od.map il++O)) H):Sep (A::B::(((t,r)::Od).map il++O)) H:=by
 show Sep (A::B::tu t r.tl::(Od.map il++O)) H;exact z.sub (.cons .k1 (.cons .k1 (.cons .e .refl)))
def c8.new {S':List (Addr×Rw)}{t:Addr}(h:c8 S Od)(hr:r.ok/\aL r=false)(hs:∀ p ∈ S',p=(t,r)\/p ∈ S):c8 S' ((t,r)::Od):=⟨λp hp=>by
 rcases hs p hp with rfl|hp
 ·exact lv
 ·exact dL _ (h.1 p hp),h.2.add hr⟩
def c8.pull {p:Addr×Rw}(h:c8 S Od)(hp:p ∈ S):∃ Δ,∀ O,af (il p) (Od.map il++O) (Δ++O):=aR (h.1 p hp)
def ux {a:Nat}{t:Addr}:(S.map bK).set a (ut t)=(S.set a (t,r)).map bK:=by rw[List.map_set];rfl
def jZ {l:List α}{a:Nat}{x p:α}(h:p ∈ l.set a x):p=x\/p ∈ l:=by
 rcases List.mem_or_eq_of_mem_set h with h|h
 ·exact .inr h
 ·exact .inl h
def Fb {v1 v2 v3:V}(z:Sep O H)(r:aI (pt d (.dK [])) (pt d (.dK [(.inr "copy",v1),(.inr "shift",v2),(.inr "turn",v3)])) O Γ') (q:∀ H',Sep Γ' H'->Q (ut d) H'):mf ["copy","shift","turn"] d [v1,v2,v3] H Q:=by
 obtain ⟨Δ,p1,_⟩:=r.bG;unfold mf;refine ⟨(z.pull p1).at,?_⟩;have e:gm [] (Fm ["copy","shift","turn"] [v1,v2,v3])=[(.inr "copy",v1),(.inr "shift",v2),(.inr "turn",v3)]:=by rfl
 rw[e];exact q _ (z.put r rfl)
def BS {kvs:List (Key×V)}{k:Key}{d:V}:(di kvs k).getD d=d\/∃ e ∈ kvs,(di kvs k).getD d=e.2:=by
 unfold di;cases e:kvs.find? λkv=>decide (kv.1=k) with
 |none=>exact .inl rfl
 |some x=>exact .inr ⟨x,List.mem_of_find?_eq_some e,rfl⟩
def vm (r:Rw):∃ w rest,r.tl=wf w::rest/\((∃ n o,r=.hop n o)\/kQ (wf w) (wf "hop")=false):=by
 cases r with
 |lg w=>exact ⟨_,_,rfl,.inr (by cases w<;>decide+kernel)⟩
 |sp s=>cases s<;>exact ⟨_,_,rfl,.inr (by decide+kernel)⟩
 |hop n o=>exact ⟨_,_,rfl,.inl ⟨n,o,rfl⟩⟩
def n8 {a:Nat}(h:a<n):vZ n (a:Int)=some a:=by
 unfold vZ;simp
 omega
section
variable {h L0:Addr}{m:Int}{N:Nat}{S0 Od0:List (Addr×Rw)}
abbrev yt (h:Addr)(N:Nat)(m:Int)(Od0:List (Addr×Rw))(O:List aq)(U:St)(H:Hp):Prop:=∃ (L:Addr) (S Od:List (Addr×Rw)) (u3 u4 u5 u6:Option V),U=[some (ut h),some (ut L),some (v4 (N:Int)),u3,u4,u5,u6]/\1<=S.length/\S.length<=24/\c8 S Od/\(∀ p ∈ Od0,p ∈ Od)/\Sep (hand h m::pt L (wn (S.map bK))::(Od.map il++O)) H
def Jt {b:mM}{D0:Ends}{N:St->Hp->Prop}{X:St->XK}{U:St}(h:∀ D:Ends,(∀ σ' H',N σ' H'->D.nx σ' H')->wB b G D X U H):wB b G (ze D0 N) X U H:=h _ λ_ _ z=>z
def GB (hk:3<=k)(n0:1<=N)(n60:N<=60)(hm:m<=1099500000000)(s0:1<=S0.length)(s1:S0.length<=24)(hP:c8 S0 Od0)(z:Sep (hand h m::(Od0.map il++O)) H)(p0:af (pt L0 (wn (S0.map bK))) O Δ)
  (q:∀ L (S Od:List (Addr×Rw)) H',1<=S.length->S.length<=24->c8 S Od->(∀ p ∈ Od0,p ∈ Od)->Sep (hand h (m+100)::pt L (wn (S.map bK))::(Od.map il++O)) H'->Q (ut L) H'):ab tab R k 106 [ut h,ut L0,v4 (N:Int)] H Q E:=by
 delta jo;left;refine dw z (z.get (.t (aa p0))) (λL H1 z1=>?_);walk_at "gd";rename_i l2 H2 z2 r H3 r0 r1 z3;obtain ⟨v,e2,i,rfl,i0,i1⟩:=cZ (xs:=[v4 0,v4 1,v4 1,v4 2]) (P:=inR 0 2) (r:=r) r0 (by simpa using r1) (LB (.mk (by decide) (by decide)) (.mk (by decide) (by decide)) (.mk (by decide) (by decide)) (.mk (by decide) (by decide)));refine aJ (by grind) e2 ?_;have z4:Sep (hand h (m+1+20*((0:Nat):Int))::pt L (wn (S0.map bK))::(Od0.map il++O)) H3:=aj (z3.sub (Γ':=hand h (m+1)::pt L (wn (S0.map bK))::(Od0.map il++O)) (.cons .e (.drop .refl))) nofun;clear z z1 z2 z3;right;refine hE (n:=i.toNat) (λj U H=>yt h N (m+1+20*(j:Int)) Od0 O U H) ⟨L,S0,Od0,_,_,_,_,rfl,s0,s1,hP,λp hp=>hp,z4⟩ ?_ ?_
 ·rintro j U H hj ⟨L,S,Od,u3,u4,u5,u6,rfl,s0,s1,hP,hO,zz⟩;clear z4;refine Jt (λD nx=>?_)
  replace nx:∀ {σ' H'},yt h N (m+1+20*((j+1:Nat):Int)) Od0 O σ' H'->D.nx σ' H':=λ{_ _}=>nx _ _
  walk_at "gd";rename_i w H4 w0 w1 z5 a H5 a0 a1 z6;rw[ci] at a1;obtain ⟨a,rfl⟩:=sn a0;have ha:a<S.length:=by omega
  obtain ⟨⟨ts,rs⟩,es⟩:∃ p,S[a]? =some p:=⟨_,li ha⟩;obtain ⟨Δs,ps⟩:=hP.pull (db es);clear zz z5;rcases (by omega:w=0\/w=1\/w=2\/w=3\/w=4) with rfl|rfl|rfl|rfl|rfl
  ·refine aN rfl ?_;left;refine ⟨rfl,?_⟩;refine qD nofun z6 nofun nofun nofun (λt r H6 ok lb z7=>?_);left;refine dO z7 .k2 (n8 (by rw[ci];exact ha)) (ux (r:=r)) (λH7 z8=>?_);right;exact nx ⟨L,S.set a (t,r),(t,r)::Od,_,_,_,_,rfl,by rw[length_set];exact s0,by rw[length_set];exact s1,hP.new ⟨ok,lb⟩ λp hp=>jZ hp,λp hp=>dL _ (hO p hp),aj (t7 z8) nofun⟩
  ·refine aw rfl ?_;right;refine aA (λh0=>?_) (λ_=>?_)
   ·have h0:0<a:=by simpa using h0
    obtain ⟨p1,es1⟩:∃ p,S[a-1]? =some p:=⟨_,li nofun⟩;right;rename_i c1 H6 z7;refine aJ (z7.get .k2) (aF a0 (by rw[io,re,es];rfl)) ?_;left;refine aJ (z7.get .k2) (aF nofun (by rw[io,show ((a:Int)-1).toNat=a-1 by omega,es1];rfl)) ?_;left;refine iI z7 (ol rfl) (λc2 H7 z8=>?_);rw[show (a:Int)-1=((a-1:Nat):Int) by omega,yM (by rw[ci];omega)] at z8;left;refine kN z8 (z8.get .k1) z8.at (by rw[dl,ci];show _+2<=_;omega) (λc3 H8 z9=>?_);right;rename_i c4 H9 zA;rw[show (a:Int)+1=((a+1:Nat):Int) from rfl,rE (by rw[ci];omega)] at zA;have el:(S.map bK).take (a-1)++[bK (ts,rs),bK p1]++(S.map bK).drop (a+1)=(S.take (a-1)++[(ts,rs),p1]++S.drop (a+1)).map bK:=by
     rw[f8,f8,map_take,map_drop];rfl
    have ln:(S.take (a-1)++[(ts,rs),p1]++S.drop (a+1)).length=S.length:=by
     rw[cr,cr,dl,jp];show min _ _+2+_=_
     omega
    refine kN zA (zA.get .k1) zA.at (by rw[<-cr,el,ci,ln];omega) (λc5 HA zB=>?_);rw[el] at zB;clear z7 z8 z9 zA;right;refine nx ⟨c5,_,Od,_,_,_,_,rfl,by rw[ln];exact s0,by rw[ln];exact s1,hP.sub λp hp=>?_,hO,aj (zB.sub (Γ':=hand h (m+1+20*(j:Int)+1+1)::pt c5 (wn ((S.take (a-1)++[(ts,rs),p1]++S.drop (a+1)).map bK))::(Od.map il++O)) (.cons (.j2 .k3) (.cons .e (.drop (.drop (.drop (.drop (.drop .refl)))))))) nofun⟩;rcases mem_append.mp hp with hp|hp
    ·rcases mem_append.mp hp with hp|hp
     ·exact mem_of_mem_take hp
     ·rcases lw.mp hp with rfl|hp
      ·exact db es
      ·rw[mem_singleton.mp hp];exact db es1
    ·exact mem_of_mem_drop hp
   ·right;exact nx ⟨L,S,Od,_,_,_,_,rfl,s0,s1,hP,hO,aj z6 nofun⟩
  ·refine aw rfl ?_;walk_at "gd";rename_i t1 H6 z7 t2 H7 z8 l3 H8 z9 r3 H9 r30 r31 zA;obtain ⟨w,e2,to,wo,rfl,hto⟩:=cZ (xs:=[ut t1,ut t2]) (P:=λv=>∃ (t:Addr) (w:Wd),v=ut t/\((t=t1/\w=.copy)\/(t=t2/\w=.turn))) (r:=r3) r30 (by simpa using r31) (HW ⟨_,_,rfl,.inl ⟨rfl,rfl⟩⟩ ⟨_,_,rfl,.inr ⟨rfl,rfl⟩⟩);refine aJ (by grind) e2 ?_;left;intro D hD;have zB:=((((zA.pull .k2).toT).pull .k3).toT).new (o:=.dK []) hD;clear z7 z8 z9 zA;left;refine aY zB (ol rfl) (λt4 HB zC=>?_);left;refine aY zC.toT (ol rfl) (λt5 HC zD=>?_);left;refine Fb zD.toT .k2 (λHD zE=>?_);clear zB zC zD;have gL:=zE.get (a:=L) (o:=wn (S.map bK)) (.j2 (.j2 .k3));have hL:j7 (S.map bK) (a:Int)=some (bK (ts,rs)):=aF a0 (by rw[io,re,es];rfl);obtain ⟨ww,rest,hh,_⟩:=vm rs;right;refine ⟨D,_,rfl,zE.get .k2,?_⟩;right;refine aJ gL hL ?_;left;refine c7 (v:=wf ww) (zE.bT (.j2 (.j2 (.j2 (.j2 (ps _)))))) (aF (by decide) (by show rs.tl[_]? =_;rw[hh];rfl)) ?_;left;refine aJ gL hL ?_;left;refine LS (k:=.inr ww) (zE.get .k2) ?_;obtain ⟨p,hp,ep⟩:∃ p:Addr×Rw,p ∈ (t5,Rw.lg .shift)::(t4,.lg .shift)::(t1,.lg .copy)::(t2,.lg .turn)::Od/\(di (κ:=Key) [(.inr "copy",ut t4),(.inr "shift",ut to),(.inr "turn",ut t5)] (.inr ww)).getD (bK (ts,rs))=bK p:=by
    rcases BS (kvs:=[(Sum.inr "copy",ut t4),(.inr "shift",ut to),(.inr "turn",ut t5)]) (k:=Sum.inr ww) (d:=bK (ts,rs)) with e|⟨e,he,e2⟩
    ·exact ⟨(ts,rs),by simp[hP.1 _ (db es)],e⟩
    ·rw[e2];simp only[lw,not_mem_nil,or_false] at he;rcases he with rfl|rfl|rfl
     ·exact ⟨(t4,.lg .shift),by simp,rfl⟩
     ·rcases hto with ⟨rfl,_⟩|⟨rfl,_⟩
      ·exact ⟨(to,.lg .copy),by simp,rfl⟩
      ·exact ⟨(to,.lg .turn),by simp,rfl⟩
     ·exact ⟨(t5,.lg .shift),by simp,rfl⟩
   rw[ep];left;refine dO zE (.j2 (.j2 .k3)) (n8 (by rw[ci];exact ha)) (show _=(S.set a p).map bK by rw[List.map_set]) (λHE zF=>?_);right;have zG:Sep (hand h (m+1+20*(j:Int)+1+1+1)::pt L (wn ((S.set a p).map bK))::il (t5,Rw.lg .shift)::il (t4,.lg .shift)::il (t1,.lg .copy)::il (t2,.lg .turn)::(Od.map il++O)) HE:=zF.sub (.cons (.j2 .k3) (.cons (.j2 (.t .k3)) (.cons .e (.cons .e (.cons .k1 (.cons .k1 (.drop (.drop .refl))))))));refine nx ⟨L,S.set a p,(t5,Rw.lg .shift)::(t4,.lg .shift)::(t1,.lg .copy)::(t2,.lg .turn)::Od,_,_,_,_,rfl,by rw[length_set];exact s0,by rw[length_set];exact s1,⟨λx hx=>?_,(((hP.2.add (t6 rfl)).add (t6 rfl)).add (t6 rfl)).add (t6 rfl)⟩,λx hx=>by simp[hO x hx],aj zG nofun⟩;rcases jZ hx with rfl|hx
   ·exact hp
   ·simp[hP.1 x hx]
  ·refine aw rfl ?_;right;refine aJ (z6.get .k1) (aF a0 (by rw[io,re,es];rfl)) ?_;left;obtain ⟨ww,rest,hh,hw⟩:=vm rs;have dn:∀ {v:Option V},yt h N (m+1+20*((j+1:Nat):Int)) Od0 O [some (ut h),some (ut L),some (v4 (N:Int)),some (v4 (0+(j:Int))),some (v4 3),some (v4 (a:Int)),v] H5:=λ{v}=>⟨L,S,Od,_,_,_,_,rfl,s0,s1,hP,hO,aj z6 nofun⟩
   rcases hw with ⟨n,o,rfl⟩|hw
   ·refine c7 (v:=wf "hop") (z6.bT (.j2 (ps _))) rfl ?_;right;refine aJ (z6.get .k1) (aF a0 (by rw[io,re,es];rfl)) ?_;left;refine c7 (v:=v4 n) (z6.bT (.j2 (ps _))) rfl ?_;right;refine az (λ_=>?_) (λ_=>?_)
    ·left;refine aY z6 (ol rfl) (λt H6 z7=>?_);left;refine dO z7.toT .k2 (n8 (by rw[ci];exact ha)) (ux (r:=.sp (.add .w 0))) (λH7 z8=>?_);right;exact nx ⟨L,S.set a (t,.sp (.add .w 0)),(t,.sp (.add .w 0))::Od,_,_,_,_,rfl,by rw[length_set];exact s0,by rw[length_set];exact s1,hP.new ⟨⟨by decide,by decide⟩,rfl⟩ λp hp=>jZ hp,λp hp=>dL _ (hO p hp),aj (t7 z8) nofun⟩
    ·right;exact nx dn
   ·refine c7 (v:=wf ww) (z6.bT (.j2 (ps _))) (aF (by decide) (by show rs.tl[_]? =_;rw[hh];rfl)) ?_;right;refine aw hw ?_;right;exact nx dn
  ·refine aw rfl ?_;right;refine aA (λh0=>?_) (λ_=>?_)
   ·have h0:S.length<24:=by rw[ci] at h0;omega
    right;refine ⟨L,_,rfl,z6.get .k1,?_⟩;walk_at "gd";rename_i t1 H6 z7 t2 H7 z8 l3 H8 z9 r3 H9 r30 r31 zA;have zB:=(((zA.pull .k2).toT).pull .k3).toT;obtain ⟨w,e2,to,ro,rfl,hto⟩:=cZ (xs:=[ut t1,ut t2]) (P:=λv=>∃ (t:Addr) (w:Rw),v=ut t/\((t=t1/\w=.hop 0 none)\/(t=t2/\w=.sp (.take .s .s)))) (r:=r3) r30 (by simpa using r31) (HW ⟨_,_,rfl,.inl ⟨rfl,rfl⟩⟩ ⟨_,_,rfl,.inr ⟨rfl,rfl⟩⟩);clear z7 z8 z9 zA;refine aJ (by grind) e2 ?_;left;have el:(S.map bK).take (a:Int).toNat++ut to::(S.map bK).drop (a:Int).toNat=(S.take a++(to,ro)::S.drop a).map bK:=by
     rw[re,f8,map_cons,map_take,map_drop];rfl
    have ln:(S.take a++(to,ro)::S.drop a).length=S.length+1:=by
     rw[cr,length_cons,dl,jp]
     omega
    refine ⟨_,zB.get (.t .k3),GF zB (.t .k3) a0 (by rw[ci];omega) (by rw[ci];omega) (λHA zC=>?_)⟩;rw[el] at zC;have zG:Sep (hand h (m+1+20*(j:Int)+1+1+1)::pt L (wn ((S.take a++(to,ro)::S.drop a).map bK))::il (t1,.hop 0 none)::il (t2,.sp (.take .s .s))::(Od.map il++O)) HA:=zC.sub (.cons .k2 (.cons .k3 (.cons .e (.cons .e (.drop .refl)))));refine nx ⟨L,S.take a++(to,ro)::S.drop a,(t1,.hop 0 none)::(t2,.sp (.take .s .s))::Od,_,_,_,_,rfl,by omega,by omega,⟨λx hx=>?_,(hP.2.add (p:=(t2,.sp (.take .s .s))) ⟨True.intro,rfl⟩).add (p:=(t1,.hop 0 none)) ⟨⟨⟨by decide,by decide⟩,True.intro⟩,rfl⟩⟩,λx hx=>by simp[hO x hx],aj zG nofun⟩;rcases mem_append.mp hx with hx|hx
    ·simp[hP.1 x (mem_of_mem_take hx)]
    ·rcases lw.mp hx with rfl|hx
     ·rcases hto with ⟨rfl,rfl⟩|⟨rfl,rfl⟩<;>simp
     ·simp[hP.1 x (mem_of_mem_drop hx)]
   ·exact nx ⟨L,S,Od,_,_,_,_,rfl,s0,s1,hP,hO,aj z6 nofun⟩
 ·rintro U H ⟨L,S,Od,u3,u4,u5,u6,rfl,s0,s1,hP,hO,zz⟩;right;exact q L S Od H s0 s1 hP hO (aj (n:=m+100) zz nofun)
end
def F7 {p':Sh}(z:Sep (fU v4 p::fU v4 p'::O) H)(hl:p.2.2.length=p'.2.2.length):p.1≠p'.1/\∃ c,eO R.K H 4 (ut p.1) (ut p'.1) c/\(c=true ↔ p.2=p'.2):=by
 obtain ⟨t1,x1,cs1⟩:=p;obtain ⟨t2,x2,cs2⟩:=p';obtain ⟨b1,l1,z⟩:=CL z;obtain ⟨b2,l2,z⟩:=CL (z.pull .k3);dsimp only at*;have a1:=z.bT .k3;have a2:=z.bT (.t .k3);have a3:=z.get (.j2 .k3);have c1:=z.bT .e;have c2:=z.bT .k1;have c3:=z.get .k2;have hne:l1≠l2:=λe=>Sep.ne (z.sub (Γ':=pt l1 (wn (cs1.map v4))::pt l2 (wn (cs2.map v4))::[]) (.cons (.j2 .k3) (.cons .k2 .nil))) e
 have htn:t1≠t2:=λe=>by
  subst e;rw[a1] at c1;cases c1;exact hne rfl
 obtain ⟨u,hu,eu⟩:=ql (R:=R) (n:=1) (P:=λm=>x1.ls[m]? =x2.ls[m]?) a2 c2 rfl λm x y f1 f2=>by
  rw[io] at f1 f2;obtain ⟨i,g1,rfl⟩:=nb.mp f1;obtain ⟨j,g2,rfl⟩:=nb.mp f2;obtain ⟨c,hc,hh⟩:=tZ (H:=H) (R:=R) (n:=2) (i:=i) (j:=j);exact ⟨c,hc,by rw[g1,g2];exact hh.trans ⟨λe=>e▸rfl,λe=>Option.some.inj e⟩⟩
 obtain ⟨v,hv,ev⟩:=Ea (R:=R) (n:=1) (P:=λm=>cs1[m]? =cs2[m]?) a3 c3 (by rw[ci,ci];exact hl) λm x y f1 f2=>by
  rw[io] at f1 f2;obtain ⟨i,g1,rfl⟩:=nb.mp f1;obtain ⟨j,g2,rfl⟩:=nb.mp f2;obtain ⟨c,hc,hh⟩:=tZ (H:=H) (R:=R) (n:=2) (i:=i) (j:=j);exact ⟨c,hc,by rw[g1,g2];exact hh.trans ⟨λe=>e▸rfl,λe=>Option.some.inj e⟩⟩
 obtain ⟨c,hc,hh⟩:=ql (R:=R) (n:=2) (P:=λm=>(m=0->u=true)/\(m=1->v=true)) a1 c1 rfl λm x y f1 f2=>by
  rcases m with _|_|m
  ·cases f1;cases f2;exact ⟨u,hu,by simp⟩
  ·cases f1;cases f2;exact ⟨v,hv,by simp⟩
  ·simp at f1
 refine ⟨htn,c,hc,hh.trans ⟨λe=>?_,λe=>?_⟩⟩
 ·have g0:=eu.mp ((e 0 (by simp)).1 rfl);have g1:=ev.mp ((e 1 (by simp)).2 rfl);have e1:x1=x2:=Bx.ky (nX rfl λj hj=>g0 j (by rw[ci];exact hj));have e2:cs1=cs2:=nX hl λj hj=>g1 j (by rw[ci];exact hj)
  rw[e1,e2]
 ·cases e;exact λj _=>⟨λ_=>eu.mpr λ_ _=>rfl,λ_=>ev.mpr λ_ _=>rfl⟩
section
variable {SP1 SP2 d0 p0:Addr}{ss1 ss2:List V}{rs1 rs2:List Rw}{x:Bx}{cs:List Int}{N b:Nat}{Δ1 Δ2 Δ3 Δ4:List aq}
end
def uj {T:Addr}{S:List Sh}{b:Nat}(hk:1<=k)(hi:i=(b:Int))(e:H T=some (wn (S.map dP)))(hp:S[min b (S.length-1)]? =some p)(q:Q (ut p.1) H):ab tab R k 108 [ut T,v4 i] H Q E:=by
 subst hi;delta mi;have h0:=(sK.mp hp).1;left;refine aO e ?_;rw[ci];left;refine so rfl ?_;refine aJ e (aF nofun ?_) q;rw[io,show (min (b:Int) ((S.length:Int)-1)).toNat=min b (S.length-1) by omega,hp]
 rfl
abbrev yW (N:Nat)(s:Nat->Bx×List Int)(S:List Sh):Prop:=∀ b,∃ p,S[min b (S.length-1)]? =some p/\p.2=s b/\p.2.2.length=N
noncomputable abbrev HM (T1:Addr)(S1:List Sh)(T2:Addr)(S2:List Sh)(O:List aq):List aq:=pt T2 (wn (S2.map dP))::(S2.reverse.map (fU v4)++(pt T1 (wn (S1.map dP))::(S1.reverse.map (fU v4)++O)))
section
variable {T1 T2 t1 t2:Addr}{S1 S2:List Sh}{N b:Nat}{s1 s2:Nat->Bx×List Int}{x1 x2:Bx}{cs1 cs2:List Int}{v:List V}
def qh {p1 p2:Sh}(m1:p1 ∈ S1)(m2:p2 ∈ S2)(z:Sep (HM T1 S1 T2 S2 O) H):∃ Γ',Sep (fU v4 p1::fU v4 p2::Γ') H:=by
 obtain ⟨Θ1,f1⟩:=aR (f:=fU v4) (x:=p1) (l:=S1.reverse) (by simpa using m1);obtain ⟨Θ2,f2⟩:=aR (f:=fU v4) (x:=p2) (l:=S2.reverse) (by simpa using m2);exact ⟨_,(z.pull (.t (f2 _))).pull (.j2 (aa (.t (f1 _))))⟩
def qd (hk:2<=k)(b2:b<=2000)(hi:i=(b:Int))(h1:yW N s1 S1)(h2:yW N s2 S2)(he:∀ i,i<b->s1 i=s2 i) (z:Sep (HM T1 S1 T2 S2 O) H) (q:Q (.bl true) H):ab tab R k 109 [ut T1,ut T2,v4 i] H Q E:=by
 subst hi;delta cQ;right;rw[re];refine hE (n:=b) (λj U H'=>∃ u,U=[some (ut T1),some (ut T2),some (v4 (b:Int)),u]/\H'=H) ⟨_,rfl,rfl⟩ ?_ ?_
 ·rintro j U H' hj ⟨u,rfl,rfl⟩;obtain ⟨p1,g1,e1,l1⟩:=h1 j;obtain ⟨p2,g2,e2,l2⟩:=h2 j;obtain ⟨Γ',z2⟩:=qh (db g1) (db g2) z;obtain ⟨hne,c,ec,ic⟩:=F7 (R:=R) z2 (l1.trans l2.symm);have hc:c=true:=ic.mpr (e1.trans ((he j hj).trans e2.symm));subst hc;left;refine ⟨rfl,?_⟩;refine uj (p:=p1) (S:=S1) (b:=j) nofun (Int.zero_add _) (z.get (.t (aa .e))) g1 ?_;left;refine ⟨rfl,?_⟩;refine uj (p:=p2) (S:=S2) (b:=j) nofun (Int.zero_add _) z.at g2 ?_;left;refine AR ec (by decide) hne ?_;right;exact ⟨_,rfl,rfl⟩
 ·rintro U H' ⟨u,rfl,rfl⟩;right;exact q
abbrev fu (x1 x2:Bx)(cs1 cs2:List Int)(v:List V):Prop:=(∃ (j:Nat) (nm:Str),v=[wf "box",wf nm]/\jw[j]? =some nm/\x1.ls[j]? ≠x2.ls[j]? /\∀ i,i<j->x1.ls[i]? =x2.ls[i]?)\/(x1=x2/\∃ c:Nat,v=[wf "cell",v4 (c:Int)]/\cs1[c]? ≠cs2[c]? /\∀ i,i<c->cs1[i]? =cs2[i]?)
def pB {f g:Nat->α}{i j:Nat}(h1:f i≠g i)(l1:∀ m,m<i->f m=g m) (h2:f j≠g j) (l2:∀ m,m<j->f m=g m):i=j:=by
 rcases Nat.lt_trichotomy i j with h|h|h
 ·exact absurd (l2 i h) h1
 ·exact h
 ·exact absurd (l1 j h) h2
def vO (hk:1<=k)(h60:cs1.length<=60)(hl:cs1.length=cs2.length)(hu:fu x1 x2 cs1 cs2 v)(z:Sep (fU v4 (t1,x1,cs1)::fU v4 (t2,x2,cs2)::O) H)(q:∀ t H',Sep (pt t (wp v)::O) H'->Q (ut t) H'):ab tab R k 110 [ut t1,ut t2] H Q E:=by
 obtain ⟨b1,l1,z⟩:=CL z;obtain ⟨b2,l2,z⟩:=CL (z.pull .k3);dsimp only at z;delta cp;right;rename_i nl H1 z1;refine Js (tp1:=false) (tp2:=true) (tp3:=true) (xs:=jw.map wf) (ys:=x1.ls.map v4) (zs:=x2.ls.map v4) (bc.of z1.at) (aS.of (z1.bT (by symm))) (aS.of (z1.bT (by symm))) ?_;refine yg (xs:=jw.map wf) (ys:=x1.ls.map v4) (zs:=x2.ls.map v4) (λj U H=>∃ u2 u3 u4,U=[some (ut t1),some (ut t2),u2,u3,u4,none]/\(∀ i,i<j->x1.ls[i]? =x2.ls[i]?)/\Sep (pt nl (wn (jw.map wf))::tu t2 [ut b2,ut l2]::tu b2 (x2.ls.map v4)::pt l2 (wn (cs2.map v4))::tu t1 [ut b1,ut l1]::tu b1 (x1.ls.map v4)::pt l1 (wn (cs1.map v4))::O) H) rfl rfl ⟨_,_,_,rfl,λi h=>absurd h (Nat.not_lt_zero _),z1⟩ ?_ ?_ ?_
 ·rintro j U H ⟨_,_,_,_,_,zz⟩;exact ⟨bc.of zz.at,aS.of (zz.bT (by symm)),aS.of (zz.bT (by symm))⟩
 ·rintro j y w1 w2 T U H hy f1 f2 ⟨u2,u3,u4,rfl,hb,zz⟩ hT;rw[io] at hy f1 f2;obtain ⟨nm,hn,rfl⟩:=nb.mp hy;obtain ⟨i1,g1,rfl⟩:=nb.mp f1;obtain ⟨i2,g2,rfl⟩:=nb.mp f2;have zt:=zz.iK (xs:=[wf nm,v4 i1,v4 i2]) hT;clear z z1 zz;generalize upd H T _=H2 at zt⊢;left;refine ⟨T,_,rfl,.inl (aS.of zt.atT),rfl,?_⟩;right;refine az (λh=>?_) (λh=>?_)
  ·right;refine ⟨_,_,_,rfl,λi hi=>?_,zt.drop⟩
   by_cases e:i=j
   ·subst e;rw[g1,g2,h]
   ·exact hb i nofun
  ·have hd:x1.ls[j]? ≠x2.ls[j]? :=by rw[g1,g2];exact λe=>h (Option.some.inj e)
   rcases hu with ⟨j',nm',rfl,hn',hd',hlt⟩|⟨rfl,_⟩
   ·have e:=pB (f:=λi=>x1.ls[i]?) (g:=λi=>x2.ls[i]?) hd hb hd' hlt;subst e;rw[hn] at hn';cases hn';right;rename_i t H3 z3;exact q t H3 (z3.sub (.cons .e (.drop (.drop (.drop (.drop (.drop (.drop (.drop (.drop .refl))))))))))
   ·exact absurd rfl hd
 ·rintro U H ⟨u2,u3,u4,rfl,hb,zz⟩;clear z z1;have ex:x1=x2:=Bx.ky (nX rfl λj hj=>hb j hj);subst ex;rcases hu with ⟨_,_,_,_,hd',_⟩|⟨_,c,rfl,hd,hlt⟩
  ·exact absurd rfl hd'
  right;rw[ci];refine hE (n:=cs1.length) (λj U H'=>(∃ u5,U=[some (ut t1),some (ut t2),u2,u3,u4,u5])/\H'=H/\∀ i,i<j->cs1[i]? =cs2[i]?) ⟨⟨_,rfl⟩,rfl,λi h=>absurd h (Nat.not_lt_zero _)⟩ ?_ ?_
  ·rintro j U H' hj ⟨⟨u5,rfl⟩,rfl,hc⟩;have g1:cs1[j]? =some cs1[j]:=li hj;have g2:cs2[j]? =some (cs2[j]'nofun):=li _
   revert g1 g2
   generalize cs1[j]=i1;generalize cs2[j]'nofun=i2;intro g1 g2;right;refine aJ (v:=v4 i1) (zz.get (a:=l1) (by symm)) (gW (by rw[io,g1];rfl)) ?_;right;refine aJ (v:=v4 i2) (zz.get (a:=l2) (by symm)) (gW (by rw[io,g2];rfl)) ?_;right;refine az (λh=>?_) (λh=>?_)
   ·right;refine ⟨⟨_,rfl⟩,rfl,λi hi=>?_⟩
    by_cases e:i=j
    ·subst e;rw[g1,g2,h]
    ·exact hc i nofun
   ·have e:=pB (f:=λi=>cs1[i]?) (g:=λi=>cs2[i]?) (i:=j) (by rw[g1,g2];exact λe=>h (Option.some.inj e)) hc hd hlt;subst e;right;rename_i t H3 z3;rw[Int.zero_add] at z3;exact q t H3 (z3.sub (.cons .e (.drop (.drop (.drop (.drop (.drop (.drop (.drop .refl)))))))))
  ·rintro U H' ⟨_,rfl,hc⟩;refine absurd ?_ hd
   by_cases h:c<cs1.length
   ·exact hc c h
   ·rw[getElem?_eq_none nofun,getElem?_eq_none nofun]
end
noncomputable abbrev sF (rs:List Rw)(N:Nat)(x:Bx)(b:Nat):Bx×List Int:=AG rs (a7 N) b 0 x (en N)
noncomputable abbrev Rn:=Addr×(List Int×(List Sh×List Sh))
abbrev AW (p:Rn):V:=ut p.1
abbrev A6 (p:Rn):aq:=bx λq:Addr×Addr=>tu p.1 [ut q.1,ut q.2]::pt q.2 (wn (p.2.2.2.map dP))::(p.2.2.2.reverse.map (fU v4)++(pt q.1 (wn (p.2.2.1.map dP))::p.2.2.1.reverse.map (fU v4)))
def Jh {p:Rn}(z:Sep (A6 p::O) H):∃ T1 T2,Sep (tu p.1 [ut T1,ut T2]::HM T1 p.2.2.1 T2 p.2.2.2 O) H:=by
 obtain ⟨⟨T1,T2⟩,z⟩:=fw z;refine ⟨T1,T2,?_⟩;have z:Sep (tu p.1 [ut T1,ut T2]::pt T2 (wn (p.2.2.2.map dP))::((p.2.2.2.reverse.map (fU v4)++(pt T1 (wn (p.2.2.1.map dP))::p.2.2.1.reverse.map (fU v4)))++O)) H:=z;rw[le] at z;exact z
def Lg {t T1 T2:Addr}{cs:List Int}{S1 S2:List Sh}(z:Sep (tu t [ut T1,ut T2]::HM T1 S1 T2 S2 O) H):Sep (A6 (t,cs,S1,S2)::O) H:=by
 refine gf (T1,T2) ?_;show Sep (tu t [ut T1,ut T2]::pt T2 (wn (S2.map dP))::((S2.reverse.map (fU v4)++(pt T1 (wn (S1.map dP))::S1.reverse.map (fU v4)))++O)) H;rw[le];exact z
abbrev A5 (N:Nat)(x:Bx)(rs:List Rw)(L:List (Bx×List Int)):Prop:=(∀ r ∈ rs,aC r)/\Tr rs (a7 N) 0 x (en N) L/\L.length<=1601/\∀ p ∈ L,p.2.length=N
abbrev JS (N:Nat)(L1 L2:List (Bx×List Int))(p:Rn):Prop:=p.2.2.1.map (·.2)=L1.map (xw (ev p.2.1))/\p.2.2.2.map (·.2)=L2.map (xw (ev p.2.1))
section
variable {N b:Nat}{x:Bx}{rs rs1 rs2:List Rw}{L L1 L2:List (Bx×List Int)}{cs:List Int}{S:List Sh}{s1 s2:Nat->Bx×List Int}{SP d p0:Addr}{ss:List V}{Δ1 Δ2 Δ3:List aq}
def fj (h:A5 N x rs L)(e:S.map (·.2)=L.map (xw (ev cs))):yW N (λb=>xw (ev cs) (sF rs N x b)) S:=λb=>by
 have g:=h.2.1.it b;have ln:S.length=L.length:=by have:=congrArg List.length e;rwa [ci,ci] at this
 have hh:(S.map (·.2))[min b (L.length-1)]? =some (xw (ev cs) (sF rs N x b)):=by rw[e,io,g];rfl
 rw[io] at hh;obtain ⟨p,hp,ep⟩:=nb.mp hh;refine ⟨p,by rw[ln];exact hp,ep,?_⟩;rw[ep];show (List.map _ _).length=N;rw[ci];exact h.2.2.2 _ (db g)
def Dr (h1:∀ b,L1[min b (L1.length-1)]? =some (s1 b)) (h2:∀ b,L2[min b (L2.length-1)]? =some (s2 b)) (hb:∀ i,i<b->s1 i=s2 i) (hne:s1 b≠s2 b):b<=max L1.length L2.length:=Nat.le_of_not_lt λh=>hne (by
 have e:∀ {L:List (Bx×List Int)}{s:Nat->Bx×List Int},(∀ b,L[min b (L.length-1)]? =some (s b))->L.length<=max L1.length L2.length->s b=s (max L1.length L2.length):=λ{L s} hh hl=>by
  have a:=hh b;rw[show min b (L.length-1)=min (max L1.length L2.length) (L.length-1) by rw[Nat.min_eq_right nofun,Nat.min_eq_right nofun],hh] at a;exact (Option.some.inj a).symm
 rw[e h1 (Nat.le_max_left ..),e h2 (Nat.le_max_right ..)];exact hb _ h)
def jG (hk:4<=k)(n60:N<=60)(hx:x.ok)(h:A5 N x rs L)(hc:cs.length=N)(hs:cw O ss rs)(z:Sep O H)(p1:af (pt SP (wn ss)) O Δ1)(p2:af (ak d x) O Δ2)(p3:af (pt p0 (wn (cs.map v4))) O Δ3)
  (q:∀ T (S:List Sh) H',S.map (·.2)=L.map (xw (ev cs))->Sep (pt T (wn (S.map dP))::(S.reverse.map (fU v4)++O)) H'->Q (ut T) H'):ab tab R k 105 [ut SP,ut d,ut p0] H Q E:=by
 have hm:=Tr.map (f:=ev cs) Hx h.1 (by rw[aG];exact n60) h.2.1 hx (by rw[dJ,aG]);rw[show (en N).map (ev cs)=cs from hc▸GG] at hm;exact Fe (φ:=v4) (λj _=>rfl) hk h.1 n60 hx hc hs hm (by rw[ci];exact h.2.2.1) z p1 p2 p3 q
def E4 {kk:Nat}:∀ i ∈ stK N kk,0<=i/\i<=1000000000:=λi hi=>by
 cases kk with
 |zero=>rw[(List.mem_replicate.mp hi).2];decide
 |succ n=>
  rcases List.mem_or_eq_of_mem_set hi with h|rfl
  ·rw[(List.mem_replicate.mp h).2];decide
  ·decide
end
def Jx {t t2:Addr}{y2 y3 y4:V}(h1:H t=some (wp [wf "parted",y2,y3,y4])) (h2:H t2=some (wp [wf "alike"])):eO K H 2 (ut t) (ut t2) false:=by
 have:=eO.tt (K:=K) (n:=0) (e:=λ_=>false) (aS.of h1) (aS.of h2) λj x y f1 f2=>by
  rcases j with _|j
  ·cases f1;cases f2;exact eO.flat rfl rfl
  ·simp at f2
 exact this
section
variable {D:Ends}{E:St->XK}{t C u ST RN SP1 SP2 d a0:Addr}{N b kk:Nat}{v As ss1 ss2:List V}{c0:List Int}{B:List Rn}{x:Bx}{rs1 rs2:List Rw}{L1 L2:List (Bx×List Int)}{Δ1 Δ2 Δ3 Θ1 Θ2 Θ3 Θ4 Θ5:List aq}
def FX (hk:7<=k)(n60:N<=60)(hx:x.ok)(r1:A5 N x rs1 L1)(r2:A5 N x rs2 L2)(hs1:cw O ss1 rs1)(hs2:cw O ss2 rs2)(p1:af (pt SP1 (wn ss1)) O Δ1)(p2:af (pt SP2 (wn ss2)) O Δ2)(p3:af (ak d x) O Δ3)(hB:∀ p ∈ B,JS N L1 L2 p) (b9:B.length<=100)
  (he:∀ i,i<b->sF rs1 N x i=sF rs2 N x i) (hb:b<=max L1.length L2.length) (hu:fu (sF rs1 N x b).1 (sF rs2 N x b).1 ((sF rs1 N x b).2.map (ev (stK N kk))) ((sF rs2 N x b).2.map (ev (stK N kk))) v)
  (q1:af (pt t (wp [wf "parted",v4 (b:Int),ut C,ut u])) O Θ1) (q2:af (pt C (wn ((stK N kk).map v4))) O Θ2) (q3:af (tu u v) O Θ3) (q4:af (pt ST (wn (ut a0::As))) O Θ4) (q5:af (pt a0 (wn (c0.map v4))) O Θ5) (hc0:c0.length=N)
  (z:Sep (pt RN (wn (B.map AW))::(B.reverse.map A6++O)) H) (q:∀ H',D.rt (.bl true) H'):
  wB (qA 1 fh.body) ⟨tab,R,ab tab R (k-1),true⟩ D E [some (ut t),some (ut SP1),some (ut SP2),some (ut d),some (ut ST),some (ut RN),none,none,none,none,none,none,none,none] H:=by
 left;refine aY z (ol rfl) (λt2 H z5=>?_);have zp:=z5.pull (.j2 (aa q1));refine sG (Jx zp.at z5.at) (by decide) (Sep.ne zp) ?_;refine aw rfl ?_
 replace z:=z5.drop
 have eT:=zp.at;clear z5 zp;have eC:=z.get (.t (aa q2));left;refine tY eT ?_;right;refine c7 eT rfl ?_;right;refine c7 eT rfl ?_;right;refine d4 (t:="list") (E6 eC) rfl ?_;right;refine ⟨t,_,rfl,.inl (aS.of eT),rfl,?_⟩;right;refine aO eC ?_;right;refine aJ (v:=ut a0) (z.get (.t (aa q4))) (aF (by decide) rfl) ?_;left;refine aO (z.get (.t (aa q5))) ?_;rw[ci,ci,dB,hc0];left;refine uS rfl rfl ?_;refine aw (by rw[kK rfl];rfl) ?_;right;refine sN eC ?_;refine rS (xs:=(stK N kk).map v4) (by rw[ci,dB];omega) (λD ys H'=>ys=(sw ys.length true).map V.bl/\Sep (pt D (wn ys)::pt RN (wn (B.map AW))::(B.reverse.map A6++O)) H') (λD ys H ⟨_,hI⟩=>bc.of (hI.get (.j2 (aa q2)))) (λD hD=>⟨rfl,z.new (o:=wn []) hD⟩) (λD ys y H' hy hI=>?_) (λDb ys H' hl hI=>?_)
 ·obtain ⟨ey,zz⟩:=hI;have hly:=(sK.mp hy).1;rw[ci,dB] at hly;rw[io] at hy;obtain ⟨i,gi,rfl⟩:=nb.mp hy;have h01:=E4 i (db gi);right;refine aN (decide_eq_true h01.1) ?_;right;refine pA.mk zz.at nofun ⟨?_,zz.set rfl⟩;rw[cr,ge,List.replicate_succ',f8,<-ey];show _=ys++[V.bl true];rw[<-decide_eq_true h01.2]
  rfl
 obtain ⟨ey,zz⟩:=hI;left;refine xH (K:=R.K) rfl (bs:=sw ys.length true) (by rw[<-ey];exact zz.at) ?_;rw[show (sw ys.length true).all id=true by rw[List.all_replicate];split<;>rfl]
 replace zz:=zz.drop
 clear z eT eC;right;refine jG nofun n60 hx r1 dB hs1.app.more zz (.t (aa p1)) (.t (aa p3)) (.t (aa q2)) (λT1 S1 H1 e1 z1=>?_);left;refine ⟨rfl,?_⟩;refine jG nofun n60 hx r2 dB hs2.app.more.app.more z1 (.t (aa (.t (aa p2)))) (.t (aa (.t (aa p3)))) (.t (aa (.t (aa q2)))) (λT2 S2 H2 e2 z2=>?_);clear zz z1;right;rename_i tt H3 z3 l4 H4 z4;refine kN z4 (z4.get (a:=RN) (o:=wn (B.map AW)) (.j2 (.t (aa (.t (aa .e)))))) z4.at (by rw[ci];show _+1<=_;omega) (λcc H5 z5=>?_);have e5:=z5.at;have zt:Sep (tu tt [ut T1,ut T2]::HM T1 S1 T2 S2 (pt RN (wn (B.map AW))::(B.reverse.map A6++O))) H5:=z5.drop.drop.toT;have eu:=zt.bT (.j2 (aa (.t (aa (.t (aa q3))))));have key:∀ y ∈ B.map AW++[ut tt],∃ (t' T1 T2:Addr) (cs:List Int) (S1 S2:List Sh) (Γ':List aq),y=ut t'/\Sep (tu t' [ut T1,ut T2]::HM T1 S1 T2 S2 Γ') H5/\S1.map (·.2)=L1.map (xw (ev cs))/\S2.map (·.2)=L2.map (xw (ev cs)):=λy hy=>by
  rcases mem_append.mp hy with hy|hy
  ·obtain ⟨p,hp,rfl⟩:=List.mem_map.mp hy;obtain ⟨Θ,f⟩:=aR (f:=A6) (x:=p) (l:=B.reverse) (by simpa using hp);obtain ⟨T1,T2,zo⟩:=Jh (zt.pull (.j2 (aa (.t (aa (.t (f _)))))));exact ⟨p.1,T1,T2,p.2.1,p.2.2.1,p.2.2.2,_,rfl,zo,hB p hp⟩
  ·rw[mem_singleton.mp hy];exact ⟨tt,T1,T2,_,S1,S2,_,rfl,zt,e1,e2⟩
 clear z2 z3 z4 z5;left;refine sN e5 ?_;refine jP (xs:=B.map AW++[ut tt]) (λj U H'=>(∃ u12 u13,U=[some (ut t),some (ut SP1),some (ut SP2),some (ut d),some (ut ST),some (ut RN),some (wf "parted"),some (v4 (b:Int)),some (ut C),some (ut u),some (ut T1),some (ut T2),u12,u13])/\H'=H5) ⟨⟨_,_,rfl⟩,rfl⟩ ?_ ?_ ?_
 ·rintro j U H' ⟨_,rfl⟩;exact bc.of e5
 ·rintro j y U H' hy ⟨⟨u12,u13,rfl⟩,rfl⟩;obtain ⟨t',T1',T2',cs',S1',S2',Γ',rfl,zo,f1,f2⟩:=key y (db hy);have k1:S1'.length=L1.length:=by have:=congrArg List.length f1;rwa [ci,ci] at this
  have k2:S2'.length=L2.length:=by have:=congrArg List.length f2;rwa [ci,ci] at this
  have m1:L1.length<=1601:=r1.2.2.1;have m2:L2.length<=1601:=r2.2.2.1;left;refine ⟨t',_,rfl,.inl (aS.of zo.atT),rfl,?_⟩;left;refine aO (zo.get (a:=T1') (o:=wn (S1'.map dP)) (.j2 (aa .e))) ?_;left;refine aO (zo.get (a:=T2') (o:=wn (S2'.map dP)) .k1) ?_;rw[ci,ci,k1,k2];right;refine aw (decide_eq_false nofun) ?_;left;refine ⟨rfl,?_⟩;refine qd (b:=b) nofun nofun rfl (fj r1 f1) (fj r2 f2) (λi hi=>congrArg (xw _) (he i hi)) zo.drop ?_;right;exact ⟨⟨_,_,rfl⟩,rfl⟩
 ·rintro U H' ⟨⟨u12,u13,rfl⟩,rfl⟩;obtain ⟨⟨a1,y1⟩,g1,ep1,l1⟩:=fj r1 e1 b;obtain ⟨⟨a2,y2⟩,g2,ep2,l2⟩:=fj r2 e2 b;obtain ⟨Γ',z6⟩:=qh (db g1) (db g2) zt.drop;have z7:=((Sep.Fo eu z6).pull .k2).pull .k2;dsimp only at ep1 ep2 l1 l2;subst ep1 ep2;have hf:∀ (H:Hp) (j:Nat) y,v[j]? =some y->∃ s,tyName y H=some s:=λH j y hj=>by
   rcases hu with ⟨_,_,rfl,_⟩|⟨_,_,rfl,_⟩
   ·rcases j with _|_|j
    ·cases hj;exact ⟨_,rfl⟩
    ·cases hj;exact ⟨_,rfl⟩
    ·simp at hj
   ·rcases j with _|_|j
    ·cases hj;exact ⟨_,rfl⟩
    ·cases hj;exact ⟨_,rfl⟩
    ·simp at hj
  right;refine uj (S:=S1) (b:=b) nofun rfl (zt.get (a:=T1) (.j2 (aa .e))) g1 ?_;right;refine uj (S:=S2) (b:=b) nofun rfl (zt.get (a:=T2) .k1) g2 ?_;left;refine vO nofun (by rw[l1];exact n60) (l1.trans l2.symm) hu z7 (λt' H' z8=>?_);left
  by_cases e:t'=u
  ·subst e;exact eq_self (.inr (.inl ⟨_,aS.of z8.at⟩)) (q _)
  ·exact sG (zK (n:=0) z8.at (z8.bT .k1) rfl λj x y f1 f2=>by
    rw[f1] at f2;cases f2;obtain ⟨_,h⟩:=hf _ j x f1;exact qr h) (by decide) e (q _)
end
@[irreducible] noncomputable def vU (I:Addr->List V->Hp->Prop) (D:Addr) (ys:List V) (rest:St) (x y:Option V):VK:=λv H3=>∃ zs,H3 D=some (wn zs)/\zs.length<bn/\∃ ys2 x2 x3,x::y::rest=x2::x3::rest/\ys2.length=ys.length+1/\I D ys2 (upd H3 D (wn (zs++[v])))
def vU.mk {I:Addr->List V->Hp->Prop}{x y:Option V}(h1:H3 D=some (wn ys))(hl:ys.length<=999)(h2:I D (ys++[v]) (upd H3 D (wn (ys++[v])))):vU I D ys rest x y v H3:=
 by unfold vU;exact ⟨ys,h1,cD nofun,ys++[v],x,y,rfl,by simp,h2⟩
def xX (hn:xs.length<=1000)(I:Addr->List V->Hp->Prop)(hl:∀ D ys H,I D ys H->bc R.K H a xs) (h0:∀ D,H D=none->I D [] (upd H D (wn [])))
  (hs:∀ D ys x H',xs[ys.length]? =some x->I D ys H'->∃ t v1 v2,x=ut t/\aS R.K H' t [v1,v2]/\te (some v1::some v2::rest) H' (vU I D ys rest (some v1) (some v2)))
  (hd:∀ D ys H',ys.length=xs.length->I D ys H'->Q (ut D) H'):LCt R.K 2 te (BM R.K a) (none::none::rest) H Q:=by
 unfold LCt;intro D hD;refine ⟨λi m σ' H'=>m=xs.length-i/\i<=xs.length/\∃ ys x0 x1,σ'=x0::x1::rest/\ys.length=i/\I D ys H',⟨xs.length,by simp,Nat.zero_le _,[],none,none,rfl,rfl,h0 D hD⟩,λi m σ' H' ⟨e,hi,ys,x0,x1,e1,e2,h⟩=>?_⟩;subst e1 e2
 by_cases hlt:ys.length<xs.length
 ·refine .inr ⟨⟨xs,xs[ys.length],hl D ys H' h,li hlt⟩,λσ2 H2=>∃ ys2 x2 x3,σ2=x2::x3::rest/\ys2.length=ys.length+1/\I D ys2 H2,λσ2 H2 ⟨ys2,x2,x3,f1,f2,f3⟩=>⟨xs.length-(ys.length+1),by omega,rfl,hlt,ys2,x2,x3,f1,f2,f3⟩,λx H'' y=>?_⟩;obtain ⟨e1,hy⟩:=y;subst e1;obtain ⟨t,v1,v2,rfl,ht,z⟩:=hs D ys x H'' (hy xs (hl D ys H'' h)) h;refine ⟨t,[v1,v2],rfl,ht,rfl,rfl,?_⟩;unfold vU at z;exact ⟨λ_=>z,λe=>nomatch e⟩
 ·have:ys.length=xs.length:=by omega
  exact .inl ⟨⟨xs,hl D ys H' h,Nat.le_of_eq this.symm⟩,hd D ys H' this h⟩
def MS {a b c X:aq}{L:List aq}(z:Sep (a::b::c::X::(L++O)) H):Sep (X::(L++(a::b::c::O))) H:=Sep.mv (P:=[]) (Δ:=[a,b,c]) (L:=X::L) z
def Lb {t:Addr}{o:Al}{s1 s2:Nat->Bx×List Int}(h:Cm N s1 s2 o)(z:Sep (D8 N t o::O) H):o=.al\/∃ C u,(∀ i,i<o.b->s1 i=s2 i)/\fu (s1 o.b).1 (s2 o.b).1 ((s1 o.b).2.map (ev (stK N o.kk))) ((s2 o.b).2.map (ev (stK N o.kk))) o.u/\Sep (pt t (wp [wf "parted",v4 (o.b:Int),ut C,ut u])::pt C (wn ((stK N o.kk).map v4))::tu u o.u::O) H:=by
 cases o with
 |al=>exact .inl rfl
 |bx b nm=>
  obtain ⟨⟨C,u⟩,z⟩:=fw z;obtain ⟨he,j,r⟩:=h;exact .inr ⟨C,u,he,.inl ⟨j,nm,rfl,r⟩,z⟩
 |ce b kk c=>
  obtain ⟨⟨C,u⟩,z⟩:=fw z;obtain ⟨he,hx,_,_,r⟩:=h;exact .inr ⟨C,u,he,.inr ⟨hx,c,rfl,r⟩,z⟩
section
variable {t ST SP1 SP2 d:Addr}{N:Nat}{ss1 ss2:List V}{A:List Ce}{o:Al}{x:Bx}{rs1 rs2:List Rw}{L1 L2:List (Bx×List Int)}{Δ1 Δ2 Δ3:List aq}
def BP (hk:8<=k)(n60:N<=60)(hx:x.ok)(r1:A5 N x rs1 L1)(r2:A5 N x rs2 L2)(hs1:cw O ss1 rs1)(hs2:cw O ss2 rs2)(p1:af (pt SP1 (wn ss1)) O Δ1)(p2:af (pt SP2 (wn ss2)) O Δ2)(p3:af (ak d x) O Δ3)(a0:1<=A.length)(a1:A.length<=10)(hA:∀ p ∈ A,p.2.length=N)
  (ho:Cm N (sF rs1 N x) (sF rs2 N x) o) (z:Sep (D8 N t o::pt ST (wn (A.map iS))::(A.reverse.map ik++O)) H) (q:∀ H',Q (.bl true) H'):ab tab R k 111 [ut t,ut SP1,ut SP2,ut d,ut ST] H Q E:=by
 delta fh;left;refine ⟨rfl,?_⟩;refine sN (z.get .k1) ?_;refine rS (xs:=A.map iS) (by rw[ci];omega) (λD ys H=>∃ B:List Rn,ys=B.map AW/\(∀ p ∈ B,JS N L1 L2 p)/\Sep (pt D (wn ys)::(B.reverse.map A6++(D8 N t o::pt ST (wn (A.map iS))::(A.reverse.map ik++O)))) H) (λD ys H ⟨B,_,_,hI⟩=>bc.of (hI.get (.t (aa .k1)))) (λD hD=>⟨[],rfl,λp hp=>absurd hp (by simp),z.new (o:=wn []) hD⟩) (λD ys y H hy hI=>?_) (λRN ys H hl hI=>?_)
 ·obtain ⟨B,e,hB,zz⟩:=hI;rw[io] at hy;obtain ⟨⟨one,cs⟩,gA,rfl⟩:=nb.mp hy;have hm1:=db gA;have hcs:cs.length=N:=hA _ hm1;have hly:=(sK.mp gA).1;obtain ⟨Θ,f⟩:=aR (f:=ik) (x:=(one,cs)) (l:=A.reverse) (by simpa using hm1);left;refine ⟨rfl,?_⟩;refine jG nofun n60 hx r1 hcs hs1.app.more.more.app.more zz (.t (aa (.j2 (aa p1)))) (.t (aa (.j2 (aa p3)))) (.t (aa (.j2 (f _)))) (λT1 S1 H1 e1 z1=>?_);left;refine ⟨rfl,?_⟩;refine jG nofun n60 hx r2 hcs hs2.app.more.more.app.more.app.more z1 (.t (aa (.t (aa (.j2 (aa p2)))))) (.t (aa (.t (aa (.j2 (aa p3)))))) (.t (aa (.t (aa (.j2 (f _)))))) (λT2 S2 H2 e2 z2=>?_);clear zz z1;left;refine aY z2 (ol rfl) (λtt H3 z3=>?_);have z4:=(Lg (cs:=cs) z3.toT).pull .k1;refine pA.mk z4.at nofun ⟨B++[(tt,cs,S1,S2)],by rw[e,f8];rfl,λp hp=>?_,?_⟩
  ·rcases mem_append.mp hp with hp|hp
   ·exact hB p hp
   ·rw[mem_singleton.mp hp];exact ⟨e1,e2⟩
  ·rw[reverse_append];exact z4.set rfl
 obtain ⟨B,rfl,hB,zz⟩:=hI;rw[ci,ci] at hl;rcases Lb ho (zz.pull (.t (aa .e))) with rfl|⟨C,u,he,hu,z9⟩
 rotate_left
 ·obtain ⟨⟨c0,i0⟩,As,rfl⟩:∃ p As,A=p::As:=by
   cases A with
   |nil=>exact absurd a0 (by decide)
   |cons p As=>exact ⟨p,As,rfl⟩
  obtain ⟨Θ,f⟩:=aR (f:=ik) (x:=(c0,i0)) (l:=((c0,i0)::As).reverse) (by simp);exact FX (k:=k) (R:=R) nofun n60 hx r1 r2 hs1.app.more.more.more.more hs2.app.more.more.more.more (.j2 (.j2 (aa p1))) (.j2 (.j2 (aa p2))) (.j2 (.j2 (aa p3))) hB nofun he (Dr (s1:=sF rs1 N x) (s2:=sF rs2 N x) r1.2.1.it r2.2.1.it he λe=>by rcases hu with ⟨_,_,_,_,h,_⟩|⟨_,_,_,h,_⟩<;>exact h (by rw[e])) hu .e .k1 .k2 .k3 (.j2 (.j2 (f _))) (hA _ (lv ..)) (MS z9) q
 have zz:Sep (pt RN (wn (B.map AW))::(B.reverse.map A6++(pt t (wp [wf "alike"])::pt ST (wn (A.map iS))::(A.reverse.map ik++O)))) H:=zz;have ho:∀ b,sF rs1 N x b=sF rs2 N x b:=ho;left;refine aY zz (ol rfl) (λt2 H5 z5=>?_);have zp:=z5.pull (A:=pt t (wp [wf "alike"])) (.j2 (aa .e));refine sG (zK (n:=0) zp.at z5.at rfl λj x y f1 f2=>by
  rw[f1] at f2;cases f2;rcases j with _|j
  ·cases f1;exact qr (t:="str") rfl
  ·simp at f1) (by decide) (Sep.ne zp) ?_
 replace z5:=z5.drop
 clear zz zp;right;refine xX (xs:=B.map AW) (by rw[ci];omega) (λD ys H'=>ys=(sw ys.length true).map V.bl/\Sep (pt D (wn ys)::pt RN (wn (B.map AW))::(B.reverse.map A6++(pt t (wp [wf "alike"])::pt ST (wn (A.map iS))::(A.reverse.map ik++O)))) H') (λD ys H ⟨_,hI⟩=>bc.of (hI.get .k1)) (λD hD=>⟨rfl,z5.new (o:=wn []) hD⟩) (λD ys y H' hy hI=>?_) (λDb ys H' hl hI=>?_)
 ·obtain ⟨ey,zz⟩:=hI;rw[io] at hy;obtain ⟨p,gB,rfl⟩:=nb.mp hy;have hp:=db gB;have hly:=(sK.mp gB).1;obtain ⟨Θ,f⟩:=aR (f:=A6) (x:=p) (l:=B.reverse) (by simpa using hp);obtain ⟨T1,T2,zo⟩:=Jh (zz.pull (.j2 (f _)));obtain ⟨f1,f2⟩:=hB p hp;have k1:p.2.2.1.length=L1.length:=by have:=congrArg List.length f1;rwa [ci,ci] at this
  have k2:p.2.2.2.length=L2.length:=by have:=congrArg List.length f2;rwa [ci,ci] at this
  have m1:L1.length<=1601:=r1.2.2.1;have m2:L2.length<=1601:=r2.2.2.1;refine ⟨p.1,ut T1,ut T2,rfl,aS.of zo.atT,?_⟩;left;refine ⟨rfl,?_⟩;left;refine aO (zo.get (a:=T1) (o:=wn (p.2.2.1.map dP)) (.j2 (aa .e))) ?_;left;refine aO (zo.get (a:=T2) (o:=wn (p.2.2.2.map dP)) .k1) ?_;rw[ci,ci,k1,k2];right;refine qd (b:=max L1.length L2.length) nofun nofun nofun (fj r1 f1) (fj r2 f2) (λi _=>congrArg (xw _) (ho i)) zo.drop ?_;refine vU.mk zz.at nofun ⟨?_,zz.set rfl⟩;rw[cr,ge,List.replicate_succ',f8,<-ey]
  rfl
 ·obtain ⟨ey,zz⟩:=hI;left;refine xH (K:=R.K) rfl (bs:=sw ys.length true) (by rw[<-ey];exact zz.at) ?_;rw[show (sw ys.length true).all id=true by rw[List.all_replicate];split<;>rfl];exact q H'
end
def zI:gj xs none (some (n:Int))=xs.take n:=by
 by_cases h:n<=xs.length
 ·exact yM h
 ·unfold gj;show (xs.drop 0).take ((if (n:Int)<0 then ((n:Int)+(xs.length:Int)).toNat else min (n:Int).toNat xs.length)-0)=_;rw[if_neg nofun,re,Nat.min_eq_right nofun,drop_zero,take_of_length_le nofun,take_of_length_le nofun]
section
variable {h L0:Addr}{m:Int}{N:Nat}{S Od:List (Addr×Rw)}
def y8 (hk:3<=k)(n0:1<=N)(n60:N<=60)(hm:m<=1099500000000)(s0:1<=S.length)(s1:S.length<=24)(hP:c8 S Od)(z:Sep (hand h m::pt L0 (wn (S.map bK))::(Od.map il++O)) H)
  (q:∀ L' (S' Od':List (Addr×Rw)) H',1<=S'.length->S'.length<=24->c8 S' Od'->Sep (hand h (m+100)::pt L' (wn (S'.map bK))::(Od'.map il++O)) H'->Q (ut L') H'):ab tab R k 107 [ut h,ut L0,v4 (N:Int)] H Q E:=by
 delta gC;walk_at "gd";rename_i r1 H1 a0 a1 z1 t1 H2 z2 r2 H3 b0 b1 z3 t2 H4 z4 la H5 z5;clear z z1 z2 z3 z4;refine ⟨la,_,rfl,z5.at,?_⟩;walk_at "gd";rename_i r3 H6 c0 c1 z6 t3 H7 z7;clear z5 z6;refine ⟨_,z7.get .k2,vn z7 .k2 (ol rfl) (λH8 z8=>?_)⟩;have z9:=((((((z8.pull (.t .k3)).toT).pull (.t .k3)).toT).pull .k2).toT);have zA:Sep (hand h (m+1+1+1)::pt la (wn ([(t1,Rw.sp (.set .h r1)),(t2,Rw.sp (.set .t r2)),(t3,Rw.sp (.set .l r3))].map bK))::pt L0 (wn (S.map bK))::(((t3,Rw.sp (.set .l r3))::(t2,Rw.sp (.set .t r2))::(t1,Rw.sp (.set .h r1))::Od).map il++O)) H8:=z9.sub (.cons .k3 (.cons .k3 (.cons .k3 .refl)));have P3:IW ((t3,Rw.sp (.set .l r3))::(t2,Rw.sp (.set .t r2))::(t1,Rw.sp (.set .h r1))::Od):=((hP.2.add (p:=(t1,Rw.sp (.set .h r1))) (rR a0 nofun)).add (p:=(t2,Rw.sp (.set .t r2))) (rR b0 nofun)).add (p:=(t3,Rw.sp (.set .l r3))) (rR c0 nofun);have hA:∀ p ∈ [(t1,Rw.sp (.set .h r1)),(t2,Rw.sp (.set .t r2)),(t3,Rw.sp (.set .l r3))],p ∈ (t3,Rw.sp (.set .l r3))::(t2,Rw.sp (.set .t r2))::(t1,Rw.sp (.set .h r1))::Od:=λp hp=>by
  simp only[lw,not_mem_nil,or_false] at hp⊢;rcases hp with h|h|h
  ·exact .inr (.inr (.inl h))
  ·exact .inr (.inl h)
  ·exact .inl h
 have hO:∀ p ∈ Od,p ∈ (t3,Rw.sp (.set .l r3))::(t2,Rw.sp (.set .t r2))::(t1,Rw.sp (.set .h r1))::Od:=λp hp=>dL _ (dL _ (dL _ hp))
 have lA:[(t1,Rw.sp (.set .h r1)),(t2,Rw.sp (.set .t r2)),(t3,Rw.sp (.set .l r3))].length=3:=rfl;clear z7 z8 z9
 revert zA P3 hA hO lA
 generalize [(t1,Rw.sp (.set .h r1)),(t2,Rw.sp (.set .t r2)),(t3,Rw.sp (.set .l r3))]=Ah;generalize (t3,Rw.sp (.set .l r3))::(t2,Rw.sp (.set .t r2))::(t1,Rw.sp (.set .h r1))::Od=Od3;intro zA P3 hA hO lA;walk_at "gd";rename_i w H9 w0 w1 zB;clear zA;refine aA (λ_=>?_) (λ_=>?_)
 ·walk_at "gd";rename_i r4 HA d0 d1 zC l5 HB zD l6 HC zE;obtain ⟨r4,rfl⟩:=sn d0;have lE:(Ah.drop r4++S.take 21).length=3-r4+min 21 S.length:=by rw[cr,jp,dl,lA]
  rw[rE (by rw[ci];omega),show (21:Int)=((21:Nat):Int) from rfl,zI,<-map_drop,<-map_take] at zE;refine kN zE (zE.get .k1) zE.at (by rw[ci,ci,<-cr,lE];omega) (λl7 HD zF=>?_);rw[<-f8] at zF;clear zB zC zD zE;right;exact q l7 (Ah.drop r4++S.take 21) Od3 HD nofun nofun ⟨λp hp=>(mem_append.mp hp).elim (λh=>hA p (mem_of_mem_drop h)) λh=>hO p (hP.1 p (mem_of_mem_take h)),P3⟩ (aj (zF.sub (.cons .k3 (.cons .e (.drop (.drop (.drop (.drop .refl))))))) nofun)
 ·right;exact q L0 S Od3 H9 s0 s1 ⟨λp hp=>hO p (hP.1 p hp),P3⟩ (aj (zB.sub (.cons .e (.drop .refl))) nofun)
end
def c8.spec (h:c8 S Od):cw (Od.map il++O) (S.map bK) (S.map (·.2)):=by
 refine ⟨by rw[ci,ci],λr hr=>?_,λi r e=>?_⟩
 ·obtain ⟨p,hp,rfl⟩:=List.mem_map.mp hr;exact (h.2 p (h.1 p hp)).1
 ·rw[io] at e;obtain ⟨⟨a,r'⟩,g,rfl⟩:=nb.mp e;obtain ⟨Δ,hp⟩:=h.pull (db g);exact ⟨a,_,by rw[io,g];rfl,hp O⟩
def c8.look (h:c8 S Od):∀ r ∈ S.map (·.2),aL r=false:=λr hr=>by
 obtain ⟨p,hp,rfl⟩:=List.mem_map.mp hr;exact (h.2 p (h.1 p hp)).2
def A5.ex (hb:∀ r ∈ rs,aC r) (ok:∀ r ∈ rs,Rw.ok r) (m1:rs.length<=24) (n60:N<=60) (hx:x.ok):∃ L,A5 N x rs L:=by
 obtain ⟨L,hT,hL⟩:=Tr.ex (cs:=en N) hb ok (by rw[aG];exact n60) 1600 (at_:=0) (x:=x) (Nat.le_trans sQ (by show (_-0)*62+61<=1600;omega)) hx (by decide) nofun;exact ⟨L,hb,hT,hL,Tr.len hb n60 hx hT⟩
def IE {t:Addr}{o:Al}(z:Sep (D8 N t o::O) H):tyName (ut t) H=some "tuple":=by
 cases o with
 |al=>exact BD (Sep.at z)
 |bx b nm=>obtain ⟨_,z⟩:=fw z;exact BD (Sep.at z)
 |ce b kk c=>obtain ⟨_,z⟩:=fw z;exact BD (Sep.at z)
section
variable {D:Ends}{E:St->XK}{h d L1 L2:Addr}{S1 S2:List (Addr×Rw)}{x:Bx}{N:Nat}{m:Int}{u0 u2:Option V}{Δ1 Δ2 Δ3:List aq}
def uQ (hk:2<=k)(n60:N<=60)(hm:m<=1099500000000)(hte:∀ {v:Option V}{H:Hp}{Q:VK},ab tab R k 93 [ut h] H Q (λ_ _=>False)->te (v::rest) H Q) (z:Sep (hand h m::O) H)
  (q:∀ C (ns:List Int) H',ns.length=N->fR ns->Sep (pt C (wn (ns.map v4))::hand h (m+200)::O) H'->Q (ut C) H'):wa te (Gq 0 N) (none::rest) H Q:=by
 refine nM (n:=N) nofun (λD ys H=>∃ ns:List Int,ys=ns.map v4/\fR ns/\Sep (pt D (wn ys)::hand h (m+3*((ys.length:Nat):Int))::O) H) (λD hD=>⟨[],rfl,λi hi=>absurd hi (by simp),(aj (n:=m+3*((([]:List V).length:Nat):Int)) ((z.new (o:=wn []) hD).pull .k1) (by simp)).pull .k1⟩) (λD ys H hl hI=>?_) (λC ys H hl hI=>?_)
 ·obtain ⟨ns,e,hc,zz⟩:=hI;refine hte (mh nofun (zz.pull .k1) nofun (λi H2 i0 i1 z2=>?_));have z3:=(z2.pull .k1).set (o':=wn (ys++[v4 i])) rfl;refine pA.mk (z2.get .k1) nofun ⟨ns++[i],by rw[e,f8];rfl,tU hc i0 i1,?_⟩;exact (aj (n:=m+3*(((ys++[v4 i]).length:Nat):Int)) (z3.pull .k1) (by rw[cr,ge];omega)).pull .k1
 ·obtain ⟨ns,rfl,hc,zz⟩:=hI;rw[ci] at hl zz;exact q C ns H hl hc ((aj (n:=m+200) (zz.pull .k1) nofun).pull .k1)
def zR (ro:Ro K R)(hk:14<=k)(n0:1<=N)(n60:N<=60)(hm:m<=1099400000000)(hx:x.ok)(s10:1<=S1.length)(s11:S1.length<=24)(s20:1<=S2.length)(s21:S2.length<=24)(lb1:∀ r ∈ S1.map (·.2),aL r=false) (lb2:∀ r ∈ S2.map (·.2),aL r=false) (hs1:cw O (S1.map bK) (S1.map (·.2))) (hs2:cw O (S2.map bK) (S2.map (·.2))) (p1:af (pt L1 (wn (S1.map bK))) O Δ1) (p2:af (pt L2 (wn (S2.map bK))) O Δ2) (p3:af (ak d x) O Δ3) (z:Sep (hand h m::O) H) (q:∀ H',D.rt (.bl true) H'):
  wB (qA 7 vx.body) ⟨tab,R,ab tab R (k-1),true⟩ D E [u0,some (ut h),u2,some (v4 (N:Int)),some (ut d),some (ut L1),some (ut L2),none,none] H:=by
 right;rw[re];refine nM (n:=N) nofun (λD ys H=>∃ ns:List Int,ys=ns.map v4/\Sep (pt D (wn ys)::hand h m::O) H) (λD hD=>⟨[],rfl,z.new (o:=wn []) hD⟩) (λD ys H hl hI=>?_) (λC1 ys H1 hl hI=>?_)
 ·obtain ⟨ns,e,zz⟩:=hI;right;refine pA.mk zz.at nofun ⟨ns++[_],by rw[e,f8];rfl,zz.set rfl⟩
 obtain ⟨n1,rfl,z1⟩:=hI;rw[ci] at hl;clear z;right;rw[re];refine uQ (k:=k-1) nofun n60 nofun (λh=>⟨rfl,h⟩) (z1.pull .k1) (λC2 n2 H2 hl2 _ z2=>?_);clear z1;left;refine iI z2 (ol rfl) (λST H3 z3=>?_);have z:Sep (hand h (m+200)::(pt ST (wn ([(C1,n1),(C2,n2)].map iS))::([(C1,n1),(C2,n2)].reverse.map ik++O))) H3:=z3.sub (.cons .k2 (.cons .e (.cons .e .refl)));have hA:∀ p ∈ [(C1,n1),(C2,n2)],p.2.length=N:=λp hp=>by
  simp only[lw,not_mem_nil,or_false] at hp;rcases hp with rfl|rfl
  ·exact hl
  ·exact hl2
 have lA:[(C1,n1),(C2,n2)].length=2:=rfl;clear z2 z3
 revert z hA lA
 generalize [(C1,n1),(C2,n2)]=A;intro z hA lA;have gs1:=hs1;have gs2:=hs2;have gp1:=p1;have gp2:=p2;have gp3:=p3
 replace hs1:=hs1.app (L:=A.reverse.map ik) |>.more (A:=pt ST (wn (A.map iS)))
 replace hs2:=hs2.app (L:=A.reverse.map ik) |>.more (A:=pt ST (wn (A.map iS)))
 replace p1:=af.t (B:=pt ST (wn (A.map iS))) (aa (L:=A.reverse.map ik) p1)
 replace p2:=af.t (B:=pt ST (wn (A.map iS))) (aa (L:=A.reverse.map ik) p2)
 replace p3:=af.t (B:=pt ST (wn (A.map iS))) (aa (L:=A.reverse.map ik) p3)
 left;refine ⟨rfl,?_⟩;left;refine ⟨rfl,?_⟩;refine sN (z.get (.t p1)) ?_;refine mx (k:=k-1) ro nofun (by rw[ci];exact s11) hs1.more lb1 (λh=>⟨rfl,h⟩) z (.t p1) (λRW1 A1 H1 hA1 z1=>?_);left;refine ⟨rfl,?_⟩;refine sN (z1.get (.t (aa (.t p2)))) ?_;refine mx (k:=k-1) ro nofun (by rw[ci];exact s21) hs2.more.app.more lb2 (λh=>⟨rfl,h⟩) z1 (.t (aa (.t p2))) (λRW2 A2 H2 hA2 z2=>?_);clear z z1;have hok1:∀ r ∈ S1.map (·.2),Rw.ok r:=hs1.2.1;have hok2:∀ r ∈ S2.map (·.2),Rw.ok r:=hs2.2.1;have bl1:∀ r ∈ S1.map (·.2),aC r:=λr hr=>gQ (lb1 r hr)
 have bl2:∀ r ∈ S2.map (·.2),aC r:=λr hr=>gQ (lb2 r hr)
 have an1:(S1.map (·.2)).any aL=false:=any_eq_false.mpr (λr hr=>by rw[lb1 r hr];decide);have an2:(S2.map (·.2)).any aL=false:=any_eq_false.mpr (λr hr=>by rw[lb2 r hr];decide);have k1:(S1.map (·.2)).length=S1.length:=ci _;have k2:(S2.map (·.2)).length=S2.length:=ci _;have rD1:cb R (A1.reverse.map (rq R)++(hand h (m+200)::(pt ST (wn (A.map iS))::(A.reverse.map ik++O)))) (A1.map bK) (S1.map (·.2)):=mU hA1;have rD2:cb R (A2.reverse.map (rq R)++(pt RW1 (wn (A1.map bK))::(A1.reverse.map (rq R)++(hand h (m+200)::(pt ST (wn (A.map iS))::(A.reverse.map ik++O)))))) (A2.map bK) (S2.map (·.2)):=mU hA2;left;refine ⟨rfl,?_⟩;have pd:af (ak d x) (pt RW2 (wn (A2.map bK))::(A2.reverse.map (rq R)++(pt RW1 (wn (A1.map bK))::(A1.reverse.map (rq R)++(hand h (m+200)::(pt ST (wn (A.map iS))::(A.reverse.map ik++O))))))) _:=.t (aa (.t (aa (.t p3))));refine yk ro nofun hx (z2.pull pd) (λb H3 z3=>?_);have z4:=(z3.pull .k1).push (O:=aH R b x::pt RW2 (wn (A2.map bK))::(A2.reverse.map (rq R)++(pt RW1 (wn (A1.map bK))::(A1.reverse.map (rq R)++(hand h (m+200)::(pt ST (wn (A.map iS))::(A.reverse.map ik++O))))))) (.t pd);have z5:=z4.pull (A:=pt RW1 (wn (A1.map bK))) (.j2 (aa .e));have z6:=z5.sub (Γ':=pt RW1 (wn (A1.map bK))::pt RW2 (wn (A2.map bK))::aH R b x::(A2.reverse.map (rq R)++(A1.reverse.map (rq R)++(hand h (m+200)::(pt ST (wn (A.map iS))::(A.reverse.map ik++O)))))) (.cons .e (.cons .k1 (.cons .e .refl)));clear z2 z3 z4 z5;have rD3:cb R (A2.reverse.map (rq R)++(A1.reverse.map (rq R)++(hand h (m+200)::(pt ST (wn (A.map iS))::(A.reverse.map ik++O))))) (A2.map bK) (S2.map (·.2)):=mU hA2;left;refine C6 (N:=N) (rs1:=S1.map (·.2)) (rs2:=S2.map (·.2)) ro nofun nofun nofun hok1 hok2 an1 an2 rD1.app rD3 n0 n60 z6 (λt o H4 ho z7=>?_);have z8:=z7.sub (Γ':=D8 N t o::hand h (m+200)::(pt ST (wn (A.map iS))::(A.reverse.map ik++O))) (.cons .e (.drop (.drop (.drop (hU (hU .refl))))));clear z6 z7;obtain ⟨M1,r1⟩:=A5.ex (N:=N) bl1 hok1 nofun n60 hx;obtain ⟨M2,r2⟩:=A5.ex (N:=N) bl2 hok2 nofun n60 hx;left;refine d4 (t:="tuple") (IE z8) rfl ?_;right;exact BP nofun n60 hx r1 r2 gs1 gs2 gp1 gp2 gp3 nofun nofun hA ho (z8.sub (.cons .e (.drop .refl))) q
end
def GO (ro:Ro K R)(hk:14<=k):∀ vs H Q E,ji K 63 vs H Q E->ab tab R k 112 vs H Q E:=by
 rintro vs H Q E ⟨a,is,rfl,hS,h63,hQ⟩;delta vx;right;rw[<-ro.hK] at hS;refine G5 nofun Sep.nil hS h63 (λh H1 z1=>?_);walk_at "gd";rename_i w H2 w0 w1 z2 l3 H3 z3 r H4 r0 r1 z4;obtain ⟨v,e2,M,rfl,M0,M1⟩:=cZ (xs:=[v4 3,v4 8,v4 24]) (P:=inR 1 24) (r:=r) r0 (by simpa using r1) (JR (.mk (by decide) (by decide)) (.mk (by decide) (by decide)) (.mk (by decide) (by decide)));refine aJ (by grind) e2 ?_;have z5:Sep (hand h 2::[]) H4:=aj (z4.sub (Γ':=[hand h _]) (by ac_nf)) nofun;clear z1 z2 z3 z4;walk_at "gd";rename_i s H5 s0 s1 z6;obtain ⟨N,hN⟩:=sn (a:=1+s) nofun;rw[hN];rw[re];clear z5;refine uQ (k:=k-1) nofun nofun nofun (λh=>⟨rfl,h⟩) z6 (λC ns H6 hl hc z7=>?_);clear z6;left;refine Hb (p:=C) nofun (z7.pull .k1) nofun nofun nofun hc (λd x H7 hx z8=>?_);have z9:=aj (n:=1000) (z8.pull .k1) nofun;clear z7 z8;left;refine ⟨rfl,?_⟩;left;refine ⟨rfl,?_⟩;left;refine qb nofun (by decide) nofun nofun z9 (λSP S H8 s0 s1 ok hb zA=>?_);have P0:c8 S S.reverse:=⟨λp hp=>by simpa using hp,λp hp=>⟨ok p (by simpa using hp),hb p (by simpa using hp)⟩⟩;left;refine y8 (N:=N) nofun nofun nofun (by decide) s0 s1 P0 (zA.pull .k1) (λL1 S1 Od1 H9 s10 s11 P1 zB=>?_);have zC:Sep (hand h (1000+300+100)::(Od1.map il++(pt L1 (wn (S1.map bK))::[ak d x,pt C (wn (ns.map v4))]))) H9:=Sep.mv (P:=[hand h (1000+300+100)]) (Δ:=[pt L1 (wn (S1.map bK))]) zB;clear z9 zA zB;left;refine ⟨rfl,?_⟩;left;refine GB (N:=N) (S0:=S1) nofun nofun nofun (by decide) s10 s11 P1 zC .e (λL2 S2 Od HA s20 s21 P2 hO zD=>?_);clear zC;have P3:c8 S1 Od:=⟨λp hp=>hO p (P1.1 p hp),P2.2⟩;right;refine az (λ_=>?_) (λ_=>?_)
 ·left;refine ⟨rfl,?_⟩;left;refine qb nofun (by decide) nofun nofun zD (λL3 S3 HB s30 s31 ok3 hb3 zE=>?_);have P4:c8 S3 S3.reverse:=⟨λp hp=>by simpa using hp,λp hp=>⟨ok3 p (by simpa using hp),hb3 p (by simpa using hp)⟩⟩;refine zR (k:=k) (x:=x) ro hk nofun nofun (by decide) hx s10 s11 s30 s31 P3.look P4.look P3.spec.more.app.more P4.spec.more (.t (aa (.t (aa .e)))) .e (.t (aa (.t (aa .k1)))) (zE.pull .k1) (λH'=>hQ H')
 ·refine zR (k:=k) (x:=x) ro hk nofun nofun (by decide) hx s10 s11 s20 s21 P3.look P2.look P3.spec.more P2.spec.more (.t (aa .e)) .e (.t (aa .k1)) zD (λH'=>hQ H')
def yL (ro:Ro K R):∀ vs H Q E,ji K 63 vs H Q E->ab tab R 14 112 vs H Q E:=GO ro (pi _)
end
def walk {l:W.OpenLaw}{q:Program}{loose:List Str}{XP:(Str->Option Value)->Heap->Prop}{YP:World->Heap->Prop}{d:DefRec}{K:Params->W.Frag}(hn:l.most=some 63)(hdf:d.params.defaults=[])
    (hY:∀ (w:World) (h:Heap),YP w h->(K w.params).In h)
    (F:∀ (w:World) (mg:M8) (fa:Addr) (h:Heap),(K w.params).In h->h.Ns mainGlobals mg->mg d.name=some (.ref fa)->
      ∃ fd:FuncData,(∀ (s:Shared) (u:Value),BindsTo s fd ⟨[u],[]⟩ [("_law_script",u)])/\∀ base:Heap,(K w.params).In base->base.Ns mainGlobals mg->c9 l.prog w (K w.params) mg base (yy l.prog w) 28 fa fd ["_law_script"] (ji (K w.params) 63)):
    W.WalkO q loose XP YP l.row.toRowW d [] (λf vs=>PySem.call f vs):=
  L2.DG (n:=63) (k:=28) (x:="_law_script") (CX:=λw=>yy l.prog w) (sp:=λw=>ji (K w.params) 63) hn (by decide) hdf ⟨rfl,by decide,by decide⟩ hY F (λ_ _ a ns hl _ hS=>⟨a,ns,rfl,hS,hl,λ_=>rfl⟩) λ_ _ _ _ _ z=>zP z
abbrev Mj:List (Str×V):=[("BOUND",.int 1000000000),("MOST_ROWS",.int 24),("MOST_CELLS",.int 60),("MOST_HOPPED",.int 24),("NAMES",.ref 201)]
def MC (p:Params):L3.BE (K0 p) tab LM Me Mj=true:=by kernel_rfl
def MQ (p:Params):L3.lF (K0 p) tab LM 0 tab.fns=true:=by kernel_rfl
end My
open PySem PySem.W PyProof.Rows
set_option maxRecDepth 100000 in
set_option maxHeartbeats 0 in
theorem PySem.Challenge.cw_haulbell_k85_whole_parted_holds : PySem.Challenge.rw_haulbell_k85_whole_parted.Holds := by
  refine holds_law My.II fun said=>?_
  refine W.holds_open (loose:=My.yc) (N:=19046)
    (q:=My.pQ My.pr)
    (Yf:=fun s=>My.KN.map s.heap.get?)
    (Ya:=fun w=>(My.K0 w.params).map fun p=>some p.2)
    (Xt:=fun s=>xlAt (My.pQ My.pr) [] s&&recOk PySem.Challenge.rw_haulbell_k85_whole_parted.row.records s)
    (XP:=XL (My.pQ My.pr) [])
    (YP:=InK My.K0) My.JW
    (InK.of (as:=My.KN) fun _=>by kernel_rfl) InK.keeps
    (fun s e=>xl_of s (Bool.and_eq_true_iff.mp e).1)
    XL.keeps (by rfl) (by rfl) (by rfl)
    (fun s e=>recFacts_of (Bool.and_eq_true_iff.mp e).2)
    (by rfl) (by assumption) (by decide+kernel)
    ⟨rfl,rfl,rfl,rfl,rfl,by decide+kernel⟩ ?hw ?hc
  case hw=>w_witness2
  refine My.walk (l:=PySem.Challenge.rw_haulbell_k85_whole_parted) rfl rfl (fun w h Y=>Y) ?F
  case F=>
    intro w mg fa h KX G hmg;exact L3.BI KX G hmg (T:=My.tab) (fs:=My.LM) (cs:=My.Me) (gs:=My.Mj) (d:=My.vx) (fl:=112) (k:=14) (My.MC _) (My.MQ _) (by kernel_rfl) rfl rfl rfl (My.yL ⟨rfl,by kernel_rfl,by kernel_rfl,by kernel_rfl,by kernel_rfl,⟨201,by kernel_rfl,L3.E3 (by kernel_rfl)⟩⟩)
