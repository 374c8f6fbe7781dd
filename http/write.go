package http

import (
	"strconv"

	"covey/api"
)

func isRequest(m api.Message) bool {
	target := m.Target != "" && len(m.Target) <= api.MaxTarget && every(m.Target, isTargetByte)
	return isMethod(m.Method) && target && m.Status == 0 && m.Reason == ""
}

func isAnswer(m api.Message) bool {
	status := m.Status >= leastStatus && m.Status <= lastStatus
	return m.Method == "" && m.Target == "" && status && every(m.Reason, isReasonByte)
}

// areOwnHeaders: such as a message may bring; how long its body is, is told without it.
func areOwnHeaders(headers []api.Header) bool {
	for _, h := range headers {
		if !isName(h.Name) || tellsBody(h.Name) || !every(h.Value, isValueByte) || !isBare(h.Value) {
			return false
		}
	}
	return true
}

func appendHead(head []byte, m api.Message) []byte {
	head = append(head, startLine(m)+lineEnd...)
	for _, h := range m.Headers {
		head = appendHeader(head, h)
	}
	head = appendHeader(head, api.Header{Name: lengthName, Value: strconv.Itoa(len(m.Body))})
	return append(head, lineEnd...)
}

func startLine(m api.Message) string {
	if m.Method != "" {
		return m.Method + " " + m.Target + " " + version
	}
	return version + " " + strconv.Itoa(m.Status) + " " + m.Reason
}

func appendHeader(head []byte, h api.Header) []byte {
	return append(head, h.Name+": "+h.Value+lineEnd...)
}
